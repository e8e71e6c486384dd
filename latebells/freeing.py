"""Moments that none of many spells has, or that several of them share."""

from latebells.spells import borders, levels, spells_from


def first_free(rows, size, start):
    moment = start
    for taken_from, till in shared_by(rows, 1):
        if moment + size <= taken_from:
            return moment
        moment = max(moment, till)
    return moment


def most_at_once(rows):
    most = 0
    first = None
    for moment, level in levels(borders_of_all(rows)):
        if level > most:
            most = level
            first = moment
    return None if first is None else (most, first)


def shared_by(rows, many):
    return spells_from(borders_of_all(rows), many)


def borders_of_all(rows):
    told = []
    for spells in rows:
        told.extend(borders(spells, 1))
    return told
