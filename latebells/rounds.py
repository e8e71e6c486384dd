"""Rounds: phases (name, size), one behind the other, again and again."""


def round_size(phases):
    return sum([size for name, size in phases])


def whole_size(phases, many):
    return many * round_size(phases)


def place_at(phases, many, gone):
    if not 0 <= gone < whole_size(phases, many):
        return None
    size = round_size(phases)
    left = gone % size
    number = 0
    while left >= phases[number][1]:
        left -= phases[number][1]
        number += 1
    return (gone // size, number, left)


def left_of_phase(phases, many, gone):
    place = place_at(phases, many, gone)
    if place is None:
        return None
    return phases[place[1]][1] - place[2]


def starts(phases, many):
    rows = starts_in_round(phases)
    # Without any there is nothing to tell of, however many rounds there are.
    if not rows:
        return []
    size = round_size(phases)
    told = []
    for turn in range(many):
        told.extend([(turn * size + moment, turn, number) for moment, number in rows])
    return told


def starts_in_round(phases):
    told = []
    moment = 0
    for number, phase in enumerate(phases):
        if phase[1] != 0:
            told.append((moment, number))
        moment += phase[1]
    return told


def when(phases, turn, number):
    return whole_size(phases, turn) + round_size(phases[:number])


def time_in(phases, many, name, gone):
    size = round_size(phases)
    if size == 0:
        return 0
    spent = min(gone, whole_size(phases, many))
    return spent // size * time_in_round(phases, name, size) + time_in_round(phases, name, spent % size)


def time_in_round(phases, name, gone):
    told = 0
    left = gone
    for own_name, size in phases:
        here = min(size, left)
        left -= here
        if own_name == name:
            told += here
    return told
