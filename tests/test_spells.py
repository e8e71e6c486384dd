"""Promises 10.1 and 10.2, and what 0.3 says of spells."""

import unittest

from latebells.spells import (are_spells, between, both, either, gaps, is_in, later, length, only_first, spells_of)

FAR = 10 ** 30


def nested(thing, deep, kind):
    for _ in range(deep):
        thing = kind([thing])
    return thing


class AreSpells(unittest.TestCase):
    def test_such_as_are(self):
        for thing in ([], [(0, 1)], [(5, 9)], [(0, 1), (2, 3)], [(0, 5), (6, 7), (100, FAR), (FAR + 1, FAR + 2)]):
            with self.subTest(thing):
                self.assertIs(are_spells(thing), True)

    def test_stretches_that_touch_overlap_or_fall(self):
        for thing in ([(0, 5), (5, 9)], [(0, 5), (4, 9)], [(0, 5), (0, 5)], [(0, 9), (3, 4)], [(6, 9), (0, 5)],
                      [(0, 1), (2, 3), (3, 4)], [(0, 1), (5, 6), (2, 3)]):
            with self.subTest(thing):
                self.assertIs(are_spells(thing), False)

    def test_a_start_that_is_not_less_than_its_till(self):
        for thing in ([(0, 0)], [(5, 5)], [(6, 5)], [(1, 0)], [(0, 1), (3, 3)], [(0, 1), (4, 3), (6, 7)]):
            with self.subTest(thing):
                self.assertIs(are_spells(thing), False)

    def test_parts_that_are_no_moments(self):
        for thing in ([(-1, 5)], [(-5, -1)], [(False, 5)], [(0, True)], [(False, True)], [(None, 5)], [(0, None)],
                      [("0", "5")], [("0", 5)], [(0, "5")], [((0,), 5)], [(0, [5])], [(0, (5, 6))], [([], [])]):
            with self.subTest(thing):
                self.assertIs(are_spells(thing), False)

    def test_other_forms(self):
        for thing in (((0, 1),), (), (0, 1), [[0, 1]], [0, 1], [(0, 1), [2, 3]], [(0, 1), 5], [(0,)], [()], [(0, 1, 2)],
                      [(0, 1, None)], [(0, 1), ()], [None], [True], ["01"], ["ab"], [""], [[]], [(0, 1), None],
                      None, True, False, 0, 1, -1, FAR, "", "[]", "[(0, 1)]", "ab", [[(0, 1)]], [((0, 1),)]):
            with self.subTest(thing):
                self.assertIs(are_spells(thing), False)

    def test_deep_things(self):
        for leaf in (0, True, None, "a", (0, 1), [(0, 1)], (), []):
            for kind in (list, tuple):
                for deep in (1, 2, 3, 10, 12):
                    thing = nested(leaf, deep, kind)
                    with self.subTest(thing):
                        self.assertIs(are_spells(thing), thing == [(0, 1)])
                        self.assertIs(are_spells([(0, 1), thing]), False)
                        self.assertIs(are_spells([(0, thing)]), False)

    def test_what_is_handed_in_is_not_changed(self):
        thing = [(0, 5), (4, 9), [1, 2]]
        are_spells(thing)
        self.assertEqual(thing, [(0, 5), (4, 9), [1, 2]])


class SpellsOf(unittest.TestCase):
    def test_none(self):
        self.assertEqual(spells_of([]), [])

    def test_in_any_order(self):
        self.assertEqual(spells_of([(20, 30), (0, 5), (10, 12)]), [(0, 5), (10, 12), (20, 30)])

    def test_such_as_touch_or_overlap(self):
        self.assertEqual(spells_of([(0, 5), (5, 9)]), [(0, 9)])
        self.assertEqual(spells_of([(5, 9), (0, 5)]), [(0, 9)])
        self.assertEqual(spells_of([(0, 5), (6, 9)]), [(0, 5), (6, 9)])
        self.assertEqual(spells_of([(0, 6), (5, 9)]), [(0, 9)])
        self.assertEqual(spells_of([(0, 9), (3, 4)]), [(0, 9)])
        self.assertEqual(spells_of([(0, 9), (0, 4), (4, 9)]), [(0, 9)])
        self.assertEqual(spells_of([(2, 4)] * 3), [(2, 4)])
        self.assertEqual(spells_of([(0, 2), (4, 6), (2, 4), (8, 9)]), [(0, 6), (8, 9)])

    def test_such_as_have_no_moment(self):
        self.assertEqual(spells_of([(5, 5)]), [])
        self.assertEqual(spells_of([(9, 5)]), [])
        self.assertEqual(spells_of([(0, 0), (9, 5), (3, 4)]), [(3, 4)])
        self.assertEqual(spells_of([(0, 3), (3, 3), (4, 4), (5, 8)]), [(0, 3), (5, 8)])
        self.assertEqual(spells_of([(0, 10), (8, 2)]), [(0, 10)])
        self.assertEqual(spells_of([(0, 3), (7, 3), (7, 9)]), [(0, 3), (7, 9)])

    def test_far_moments(self):
        self.assertEqual(spells_of([(FAR, FAR + 2), (0, FAR)]), [(0, FAR + 2)])

    def test_what_is_handed_in_is_not_changed(self):
        rows = [(5, 9), (0, 6), (3, 3)]
        spells_of(rows)
        self.assertEqual(rows, [(5, 9), (0, 6), (3, 3)])


class Together(unittest.TestCase):
    def test_apart(self):
        one, other = [(0, 5)], [(7, 9)]
        self.assertEqual(either(one, other), [(0, 5), (7, 9)])
        self.assertEqual(either(other, one), [(0, 5), (7, 9)])
        self.assertEqual(both(one, other), [])
        self.assertEqual(only_first(one, other), [(0, 5)])
        self.assertEqual(only_first(other, one), [(7, 9)])

    def test_touching(self):
        one, other = [(0, 5)], [(5, 9)]
        self.assertEqual(either(one, other), [(0, 9)])
        self.assertEqual(both(one, other), [])
        self.assertEqual(only_first(one, other), [(0, 5)])
        self.assertEqual(only_first(other, one), [(5, 9)])

    def test_overlapping(self):
        one, other = [(0, 6)], [(4, 9)]
        self.assertEqual(either(one, other), [(0, 9)])
        self.assertEqual(both(one, other), [(4, 6)])
        self.assertEqual(only_first(one, other), [(0, 4)])
        self.assertEqual(only_first(other, one), [(6, 9)])

    def test_one_within_the_other(self):
        one, other = [(0, 9)], [(3, 4), (6, 7)]
        self.assertEqual(either(one, other), [(0, 9)])
        self.assertEqual(both(one, other), [(3, 4), (6, 7)])
        self.assertEqual(only_first(one, other), [(0, 3), (4, 6), (7, 9)])
        self.assertEqual(only_first(other, one), [])

    def test_the_same(self):
        one = [(0, 3), (5, 9)]
        self.assertEqual(either(one, list(one)), one)
        self.assertEqual(both(one, list(one)), one)
        self.assertEqual(only_first(one, list(one)), [])
        self.assertEqual((either(one, one), both(one, one), only_first(one, one)), (one, one, []))

    def test_the_gaps_of_the_other(self):
        one, other = [(0, 3), (5, 9)], [(3, 5), (9, 10)]
        self.assertEqual(either(one, other), [(0, 10)])
        self.assertEqual(both(one, other), [])
        self.assertEqual(only_first(one, other), one)

    def test_several(self):
        one, other = [(0, 4), (6, 10), (12, 20)], [(2, 7), (9, 13), (15, 16), (20, 22)]
        self.assertEqual(either(one, other), [(0, 22)])
        self.assertEqual(both(one, other), [(2, 4), (6, 7), (9, 10), (12, 13), (15, 16)])
        self.assertEqual(only_first(one, other), [(0, 2), (7, 9), (13, 15), (16, 20)])
        self.assertEqual(only_first(other, one), [(4, 6), (10, 12), (20, 22)])

    def test_no_spells_at_all(self):
        one = [(0, 3), (5, 9)]
        self.assertEqual((either([], []), both([], []), only_first([], [])), ([], [], []))
        self.assertEqual((either(one, []), both(one, []), only_first(one, [])), (one, [], one))
        self.assertEqual((either([], one), both([], one), only_first([], one)), (one, [], []))


class OfSpells(unittest.TestCase):
    def test_length(self):
        self.assertEqual(length([]), 0)
        self.assertEqual(length([(3, 4)]), 1)
        self.assertEqual(length([(0, 3), (5, 9), (20, 30)]), 17)
        self.assertEqual(length([(1, FAR)]), FAR - 1)

    def test_is_in(self):
        spells = [(2, 4), (6, 7)]
        told = [is_in(spells, moment) for moment in range(9)]
        self.assertEqual(told, [False, False, True, True, False, False, True, False, False])
        self.assertTrue(all(one is True or one is False for one in told))
        self.assertIs(is_in([], 0), False)
        self.assertIs(is_in([(0, 1)], 0), True)

    def test_later(self):
        self.assertEqual(later([(0, 3), (5, 9)], 10), [(10, 13), (15, 19)])
        self.assertEqual(later([(0, 3)], 0), [(0, 3)])
        self.assertEqual(later([], 5), [])

    def test_between(self):
        spells = [(2, 5), (8, 12), (20, 30)]
        rows = {(0, 40): spells, (2, 30): spells, (3, 25): [(3, 5), (8, 12), (20, 25)], (5, 8): [], (4, 9): [(4, 5), (8, 9)],
                (9, 11): [(9, 11)], (0, 2): [], (0, 3): [(2, 3)], (29, 50): [(29, 30)], (30, 50): [], (8, 12): [(8, 12)]}
        for (start, end), told in rows.items():
            with self.subTest((start, end)):
                self.assertEqual(between(spells, start, end), told)
        self.assertEqual(between([], 0, 10), [])

    def test_between_where_end_is_not_above_start(self):
        spells = [(2, 5), (8, 12)]
        for start, end in ((3, 3), (0, 0), (9, 9), (12, 2), (10, 3), (5, 4), (100, 0)):
            self.assertEqual(between(spells, start, end), [])

    def test_gaps(self):
        self.assertEqual(gaps([]), [])
        self.assertEqual(gaps([(5, 9)]), [])
        self.assertEqual(gaps([(5, 9), (10, 11)]), [(9, 10)])
        self.assertEqual(gaps([(5, 9), (20, 30), (40, 50)]), [(9, 20), (30, 40)])


class Lists(unittest.TestCase):
    def test_told_lists_are_new_ones_and_what_is_handed_in_is_not_changed(self):
        one, other = [(0, 3), (5, 9)], []
        deeds = (lambda: spells_of(one), lambda: either(one, other), lambda: either(other, one), lambda: both(one, one),
                 lambda: only_first(one, other), lambda: later(one, 0), lambda: between(one, 0, 9), lambda: gaps(one))
        for deed in deeds:
            told = deed()
            kept = list(told)
            told.append((100, 101))
            self.assertEqual((one, other), ([(0, 3), (5, 9)], []))
            self.assertEqual(deed(), kept)

    def test_all_that_is_told_are_spells(self):
        one, other = [(0, 4), (6, 10)], [(2, 7), (10, 13)]
        for told in (either(one, other), both(one, other), only_first(one, other), later(one, 5), between(one, 1, 9),
                     gaps(one), spells_of(one + other)):
            self.assertIs(are_spells(told), True)


if __name__ == "__main__":
    unittest.main()
