"""Texts of times, as 0:07:05, and of laps, a line for each."""

from latebells.errors import NoText

FIGURES = "0123456789"
MINUTE = 60
HOUR = 3600
MOST_HOUR_FIGURES = 6


def time_text(seconds):
    hours = figures_of(seconds // HOUR)
    minutes = two_figures(seconds % HOUR // MINUTE)
    rest = two_figures(seconds % MINUTE)
    return f"{hours}:{minutes}:{rest}"


# Block by block, since Python refuses to write out a very long number; a written time has no bound.
def figures_of(number):
    left = number
    blocks = []
    while left >= 10 ** 64:
        blocks.append(str(left % 10 ** 64).zfill(64))
        left = left // 10 ** 64
    blocks.append(str(left))
    return "".join(reversed(blocks))


def two_figures(number):
    return str(number).zfill(2)


def read_time(text):
    parts = text.split(":")
    if not are_time_parts(parts):
        raise NoText("the text is not the writing of a time")
    seconds = int(parts[0]) * HOUR + int(parts[1]) * MINUTE + int(parts[2])
    # Leading zeros and minutes or seconds from 60 on can be reckoned with, but no time is written so.
    if time_text(seconds) != text:
        raise NoText("the time is written otherwise")
    return seconds


# The lengths are asked ahead of all reckoning: Python refuses to read a very long number.
def are_time_parts(parts):
    if len(parts) != 3 or not 1 <= len(parts[0]) <= MOST_HOUR_FIGURES:
        return False
    return len(parts[1]) == 2 and len(parts[2]) == 2 and all([are_figures(part) for part in parts])


def are_figures(text):
    return all([sign in FIGURES for sign in text])


def about(seconds):
    if seconds >= HOUR:
        return figures_of(seconds // HOUR) + "h"
    if seconds >= MINUTE:
        return str(seconds // MINUTE) + "m"
    return str(seconds) + "s"


def laps_text(sizes):
    return "".join([lap_start(place) + time_text(size) + "\n" for place, size in enumerate(sizes)])


def read_laps(text):
    return [read_lap(line, place) for place, line in enumerate(lines_of(text))]


def read_lap(line, place):
    start = lap_start(place)
    if not line.startswith(start):
        raise NoText("the line does not begin with its number and a blank")
    return read_time(line[len(start):])


# Laps are numbered from 1 on, their places from 0.
def lap_start(place):
    return str(place + 1) + " "


def lines_of(text):
    lines = text.split("\n")
    if lines[-1] != "":
        raise NoText("the last line is not ended by a line feed")
    return lines[:-1]
