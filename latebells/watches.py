"""Watches: tuples (before, since, laps) that run, stop and keep laps."""

from latebells.sizes import is_size, is_size_or_none, never_fall, refuse_early


def is_watch(thing):
    if not isinstance(thing, tuple) or len(thing) != 3:
        return False
    return is_size(thing[0]) and is_size_or_none(thing[1]) and never_fall(thing[2])


def fresh():
    return (0, None, ())


def shown(watch, now):
    refuse_early(watch[1], now)
    if watch[1] is None:
        return watch[0]
    return watch[0] + now - watch[1]


def started(watch, now):
    refuse_early(watch[1], now)
    if watch[1] is not None:
        return watch
    return (watch[0], now, watch[2])


def halted(watch, now):
    return (shown(watch, now), None, watch[2])


def lapped(watch, now):
    return (watch[0], watch[1], watch[2] + (shown(watch, now),))


def cleared(watch, now):
    refuse_early(watch[1], now)
    return (0, None if watch[1] is None else now, ())


def lap_sizes(watch):
    laps = watch[2]
    return [lap - ahead for lap, ahead in zip(laps, (0,) + laps)]


def fastest(watch):
    sizes = lap_sizes(watch)
    least = min(sizes, default=0)
    return [number for number, size in enumerate(sizes) if size == least]


def when_shown(watch, size):
    if watch[1] is None or size < watch[0]:
        return None
    return watch[1] + size - watch[0]


def played(deeds):
    watch = fresh()
    # A list beside the watch: a tuple would be copied whole for each lap.
    laps = []
    for moment, word in deeds:
        if word == "start":
            watch = started(watch, moment)
        elif word == "halt":
            watch = halted(watch, moment)
        elif word == "lap":
            laps.append(shown(watch, moment))
        elif word == "clear":
            watch = cleared(watch, moment)
            laps = []
    return (watch[0], watch[1], tuple(laps))
