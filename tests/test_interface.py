"""The interface at the document's end: names and arguments."""

import inspect
import unittest

from latebells import (bells, clocks, diaries, diarytexts, freeing, houses, logs, paces, rounds, spells, texts, turns,
                       watches)

WATCHES = {"is_watch": 1, "fresh": 0, "shown": 2, "started": 2, "halted": 2, "lapped": 2, "cleared": 2, "lap_sizes": 1,
           "fastest": 1, "when_shown": 2, "played": 1}
CLOCKS = {"is_clock": 1, "timer": 1, "left_at": 2, "begun": 2, "stopped": 2, "longer": 3, "anew": 2, "next_ring": 2,
          "rings": 3, "how_many": 3, "skipped": 2}
ROUNDS = {"round_size": 1, "whole_size": 2, "place_at": 3, "left_of_phase": 3, "starts": 2, "when": 3, "time_in": 4}
PACES = {"reads": 2, "floor_read": 2, "gap": 3, "meet": 2, "first_showing": 2, "set_to": 3, "faster": 4}
TEXTS = {"time_text": 1, "read_time": 1, "about": 1, "laps_text": 1, "read_laps": 1}
SPELLS = {"are_spells": 1, "is_in": 2, "spells_of": 1, "either": 2, "both": 2, "only_first": 2, "length": 1, "later": 2,
          "between": 3, "gaps": 1}
FREEING = {"first_free": 3, "most_at_once": 1, "shared_by": 2}
DIARYTEXTS = {"diary_text": 1, "read_diary": 1}
# How many arguments a method has beside its object.
BELL = {"ring": 1, "silence": 1, "put_off": 2, "state": 1, "heard": 0, "loud": 0}
HOUSE = {"put": 2, "drop": 1, "clock": 1, "names": 0, "tick": 1, "moment": 0, "sleep": 0, "wake": 1, "next_due": 0}
LOG = {"tell": 2, "untell": 1, "move": 2, "deeds": 0, "watch_at": 1, "shown_at": 1, "runs": 0, "ran": 2}
TURNS = {"begin": 2, "press": 1, "left_of": 2, "fell": 1, "running": 1, "turns": 0}
DIARY = {"add": 3, "cancel": 1, "stretches": 0, "spells_by": 1, "next_free": 2, "back": 0, "forth": 0, "counts": 0,
         "twin": 0}


class Interface(unittest.TestCase):
    def check(self, holder, rows):
        for name, many in rows.items():
            with self.subTest((holder, name)):
                self.assertEqual(len(inspect.signature(getattr(holder, name)).parameters), many)

    def test_functions_with_their_arguments(self):
        self.check(watches, WATCHES)
        self.check(clocks, CLOCKS)
        self.check(rounds, ROUNDS)
        self.check(paces, PACES)
        self.check(texts, TEXTS)
        self.check(spells, SPELLS)
        self.check(freeing, FREEING)
        self.check(diarytexts, DIARYTEXTS)

    def test_classes_with_their_arguments(self):
        self.check(bells, {"Bell": 1})
        self.check(bells.Bell(1), BELL)
        self.check(houses, {"House": 1})
        self.check(houses.House(0), HOUSE)
        self.check(logs, {"Log": 0})
        self.check(logs.Log(), LOG)
        self.check(turns, {"Turns": 3})
        self.check(turns.Turns(1, 1, 0), TURNS)
        self.check(diaries, {"Diary": 0})
        self.check(diaries.Diary(), DIARY)


if __name__ == "__main__":
    unittest.main()
