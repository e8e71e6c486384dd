"""Spells: lists of stretches (start, till) of moments, apart from one another and rising."""

from latebells.sizes import do_rise


def are_spells(thing):
    if not isinstance(thing, list) or not all([is_stretch(part) for part in thing]):
        return False
    return all([one[1] < other[0] for one, other in zip(thing, thing[1:])])


def is_stretch(thing):
    return do_rise(thing) and len(thing) == 2


def spells_of(rows):
    return spells_from(borders([row for row in rows if row[0] < row[1]], 1), 1)


def either(one, other):
    return spells_from(borders(one, 1) + borders(other, 1), 1)


def both(one, other):
    return spells_from(borders(one, 1) + borders(other, 1), 2)


def only_first(one, other):
    return spells_from(borders(one, 1) + borders(other, -1), 1)


def length(spells):
    return sum([till - start for start, till in spells])


def is_in(spells, moment):
    return any([start <= moment < till for start, till in spells])


def later(spells, by):
    return [(start + by, till + by) for start, till in spells]


def between(spells, start, end):
    return both(spells, spells_of([(start, end)]))


def gaps(spells):
    return [(one[1], other[0]) for one, other in zip(spells, spells[1:])]


# Where moments begin to count for so much, and where they end to.
def borders(stretches, weight):
    return [(start, weight) for start, till in stretches] + [(till, -weight) for start, till in stretches]


# From which moment on all that counts comes to how much; one row for each moment that is a border.
def levels(marks):
    told = []
    level = 0
    for moment, weight in sorted(marks):
        level += weight
        if told and told[-1][0] == moment:
            told.pop()
        told.append((moment, level))
    return told


# The spells of all moments that count for so much or more.
def spells_from(marks, least):
    told = []
    start = None
    for moment, level in levels(marks):
        if start is None and level >= least:
            start = moment
        elif start is not None and level < least:
            told.append((start, moment))
            start = None
    return told
