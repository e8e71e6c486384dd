"""Diaries as texts: a line for each stretch, as 0:00:05-0:01:00 ann."""

from latebells.diaries import diary_of
from latebells.errors import NoText
from latebells.texts import lines_of, read_time, time_text

LETTERS = "abcdefghijklmnopqrstuvwxyz"
MOST_LETTERS = 4


def diary_text(diary):
    return "".join([stretch_line(stretch) + "\n" for stretch in diary.stretches()])


def stretch_line(stretch):
    return time_text(stretch[1]) + "-" + time_text(stretch[2]) + " " + stretch[0]


def read_diary(text):
    stretches = [read_stretch(line) for line in lines_of(text)]
    if not all([one[2] <= other[1] for one, other in zip(stretches, stretches[1:])]):
        raise NoText("the stretches are not in order, or meet")
    return diary_of(stretches)


def read_stretch(line):
    parts = line.partition(" ")
    times = parts[0].partition("-")
    stretch = (parts[2], read_time(times[0]), read_time(times[2]))
    if not is_name(stretch[0]):
        raise NoText("the stretch has no name of 1 to 4 letters a to z")
    if stretch[1] >= stretch[2]:
        raise NoText("the stretch has no moment")
    return stretch


def is_name(text):
    return 1 <= len(text) <= MOST_LETTERS and all([sign in LETTERS for sign in text])
