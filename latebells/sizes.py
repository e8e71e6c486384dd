"""What several parts of the program ask of whole numbers, of tuples of them, and of moments."""

from latebells.errors import Early


def is_size(thing):
    # True and False are ints to Python, but no whole numbers to the program.
    return isinstance(thing, int) and not isinstance(thing, bool) and thing >= 0


def is_size_or_none(thing):
    return thing is None or is_size(thing)


def are_sizes(thing):
    return isinstance(thing, tuple) and all([is_size(part) for part in thing])


def never_fall(thing):
    return are_sizes(thing) and all([one <= other for one, other in zip(thing, thing[1:])])


def do_rise(thing):
    return are_sizes(thing) and all([one < other for one, other in zip(thing, thing[1:])])


# By halves, since a tuple may be long and is asked again and again.
def many_up_to(rising, most):
    low = 0
    high = len(rising)
    while low < high:
        middle = (low + high) // 2
        if rising[middle] <= most:
            low = middle + 1
        else:
            high = middle
    return low


def stands_in(rising, number):
    place = many_up_to(rising, number)
    return place > 0 and rising[place - 1] == number


# The words name no number: Python refuses to write out a very long one.
def refuse_early(earlier, now):
    if earlier is not None and now < earlier:
        raise Early("the moment is less than one that was told of before")
