"""Promises 12.1 and 12.2, and what 0.3 says of diaries."""

import unittest

from latebells.diaries import Diary
from latebells.errors import NoClock, NoStep, Taken

ANN, BO, CY = ("ann", 10, 20), ("bo", 30, 40), ("cy", 50, 60)


def diary_with(*stretches):
    diary = Diary()
    for stretch in stretches:
        diary.add(*stretch)
    return diary


class Stretches(unittest.TestCase):
    def test_none_at_first(self):
        diary = Diary()
        self.assertEqual(diary.stretches(), [])
        self.assertEqual(diary.spells_by("ann"), [])
        self.assertEqual(diary.next_free(5, 7), 7)
        self.assertEqual(diary.counts(), (0, 0))

    def test_add(self):
        diary = Diary()
        self.assertIsNone(diary.add("ann", 10, 20))
        self.assertEqual(diary.stretches(), [ANN])

    def test_by_their_starts(self):
        self.assertEqual(diary_with(CY, ANN, BO).stretches(), [ANN, BO, CY])
        self.assertEqual(diary_with(("a", 50, 60), ("z", 2, 3), ("m", 10, 11)).stretches(),
                         [("z", 2, 3), ("m", 10, 11), ("a", 50, 60)])

    def test_one_name_twice(self):
        self.assertEqual(diary_with(ANN, ("ann", 30, 31)).stretches(), [ANN, ("ann", 30, 31)])

    def test_such_as_touch(self):
        diary = diary_with(ANN)
        self.assertIsNone(diary.add("bo", 20, 25))
        self.assertIsNone(diary.add("ann", 5, 10))
        self.assertEqual(diary.stretches(), [("ann", 5, 10), ANN, ("bo", 20, 25)])

    def test_taken(self):
        for start, till in ((10, 20), (9, 11), (19, 21), (0, 11), (19, 100), (12, 15), (0, 100), (10, 11), (19, 20)):
            diary = diary_with(ANN, BO)
            for name in ("bo", "ann"):
                with self.subTest((name, start, till)):
                    self.assertRaises(Taken, diary.add, name, start, till)
                    self.assertEqual((diary.stretches(), diary.counts()), ([ANN, BO], (2, 0)))

    def test_taken_by_either_of_two(self):
        diary = diary_with(ANN, BO)
        for start, till in ((19, 25), (25, 31), (19, 31), (0, 50), (39, 40)):
            self.assertRaises(Taken, diary.add, "cy", start, till)
        self.assertIsNone(diary.add("cy", 20, 30))

    def test_cancel(self):
        diary = diary_with(ANN, BO, CY)
        self.assertEqual(diary.cancel(30), BO)
        self.assertEqual(diary.stretches(), [ANN, CY])
        self.assertIsNone(diary.add("dee", 25, 45))
        self.assertEqual(diary.cancel(10), ANN)
        self.assertEqual(diary.cancel(25), ("dee", 25, 45))
        self.assertEqual(diary.cancel(50), CY)
        self.assertEqual(diary.stretches(), [])

    def test_cancel_of_a_start_that_is_not_there(self):
        self.assertRaises(NoClock, Diary().cancel, 0)
        diary = diary_with(ANN, BO)
        diary.cancel(30)
        for start in (0, 9, 11, 19, 20, 30, 40, 100):
            self.assertRaises(NoClock, diary.cancel, start)
        self.assertEqual((diary.stretches(), diary.counts()), ([ANN], (3, 0)))

    def test_from_moment_0(self):
        diary = diary_with(("a", 0, 1))
        self.assertRaises(Taken, diary.add, "b", 0, 1)
        self.assertEqual(diary.cancel(0), ("a", 0, 1))

    def test_what_lies_beyond_the_bounds_is_not_refused(self):
        diary = diary_with(ANN, ("", 0, 1), ("abcde", 1, 2))
        self.assertEqual(diary.spells_by("abcde"), [(1, 2)])
        self.assertIsNone(diary.add("bo", 15, 15))
        self.assertEqual(diary.spells_by("bo"), [])
        self.assertEqual(diary.cancel(15), ("bo", 15, 15))
        self.assertEqual(diary.stretches(), [("", 0, 1), ("abcde", 1, 2), ANN])

    def test_spells_by(self):
        diary = diary_with(("ann", 20, 25), ("bo", 30, 40), ANN, ("ann", 50, 51), ("bo", 25, 30))
        self.assertEqual(diary.spells_by("ann"), [(10, 25), (50, 51)])
        self.assertEqual(diary.spells_by("bo"), [(25, 40)])
        for name in ("cy", "an", "annn", "b"):
            self.assertEqual(diary.spells_by(name), [])

    def test_next_free(self):
        diary = diary_with(BO, ANN, ("cy", 20, 22))
        rows = {(1, 0): 0, (10, 0): 0, (11, 0): 40, (1, 10): 22, (8, 10): 22, (9, 10): 40, (1, 19): 22, (1, 21): 22,
                (3, 27): 27, (4, 27): 40, (1, 35): 40, (1, 100): 100}
        for (size, start), moment in rows.items():
            with self.subTest((size, start)):
                self.assertEqual(diary.next_free(size, start), moment)
        diary.cancel(20)
        self.assertEqual(diary.next_free(9, 10), 20)


class Steps(unittest.TestCase):
    def test_back_where_there_is_nothing(self):
        diary = Diary()
        self.assertRaises(NoStep, diary.back)
        self.assertRaises(NoStep, diary.forth)
        self.assertEqual((diary.stretches(), diary.counts()), ([], (0, 0)))
        diary.add(*ANN)
        self.assertRaises(NoStep, diary.forth)
        self.assertEqual((diary.stretches(), diary.counts()), ([ANN], (1, 0)))
        diary.back()
        self.assertRaises(NoStep, diary.back)
        self.assertEqual((diary.stretches(), diary.counts()), ([], (0, 1)))
        diary.forth()
        self.assertRaises(NoStep, diary.forth)
        self.assertEqual((diary.stretches(), diary.counts()), ([ANN], (1, 0)))

    def test_back_and_forth_step_by_step(self):
        diary = diary_with(ANN, BO)
        diary.cancel(10)
        diary.add("cy", 15, 25)
        states = [[], [ANN], [ANN, BO], [BO], [("cy", 15, 25), BO]]
        words = ["add", "add", "cancel", "add"]
        for _ in range(3):
            for number in (3, 2, 1, 0):
                self.assertEqual(diary.back(), words[number])
                self.assertEqual(diary.stretches(), states[number])
                self.assertEqual(diary.counts(), (number, 4 - number))
            for number in (0, 1, 2, 3):
                self.assertEqual(diary.forth(), words[number])
                self.assertEqual(diary.stretches(), states[number + 1])
                self.assertEqual(diary.counts(), (number + 1, 3 - number))

    def test_what_is_there_behind_back_counts(self):
        diary = diary_with(ANN)
        diary.back()
        self.assertRaises(NoClock, diary.cancel, 10)
        self.assertEqual(diary.spells_by("ann"), [])
        self.assertEqual(diary.next_free(1, 15), 15)
        diary.forth()
        self.assertRaises(Taken, diary.add, "bo", 19, 21)
        diary.cancel(10)
        diary.back()
        self.assertRaises(Taken, diary.add, "bo", 19, 21)
        self.assertEqual(diary.spells_by("ann"), [(10, 20)])
        self.assertEqual(diary.next_free(1, 15), 20)

    def test_forth_behind_a_new_step(self):
        diary = diary_with(ANN, BO)
        diary.back()
        diary.add(*CY)
        self.assertEqual(diary.counts(), (2, 0))
        self.assertRaises(NoStep, diary.forth)
        self.assertEqual(diary.stretches(), [ANN, CY])
        diary.back()
        diary.cancel(10)
        self.assertEqual(diary.counts(), (2, 0))
        self.assertRaises(NoStep, diary.forth)
        self.assertEqual(diary.stretches(), [])

    def test_a_new_step_taken_back_is_all_that_can_be_done_again(self):
        diary = diary_with(ANN, BO)
        diary.back()
        diary.back()
        diary.add(*CY)
        self.assertEqual(diary.back(), "add")
        self.assertEqual(diary.counts(), (0, 1))
        self.assertEqual(diary.forth(), "add")
        self.assertEqual(diary.stretches(), [CY])
        self.assertRaises(NoStep, diary.forth)

    def test_a_new_step_that_is_as_the_one_taken_back(self):
        diary = diary_with(ANN, BO)
        diary.back()
        diary.back()
        diary.add(*ANN)
        self.assertEqual(diary.counts(), (1, 0))
        self.assertRaises(NoStep, diary.forth)

    def test_refused_steps_change_nothing(self):
        diary = diary_with(ANN, BO, CY)
        diary.cancel(30)
        diary.back()
        diary.back()
        self.assertRaises(Taken, diary.add, "dee", 15, 16)
        self.assertRaises(NoClock, diary.cancel, 15)
        self.assertRaises(NoClock, diary.cancel, 50)
        self.assertEqual((diary.stretches(), diary.counts()), ([ANN, BO], (2, 2)))
        self.assertEqual([diary.forth(), diary.forth()], ["add", "cancel"])
        self.assertRaises(NoStep, diary.forth)
        self.assertEqual((diary.stretches(), diary.counts()), ([ANN, CY], (4, 0)))

    def test_asking_is_no_step(self):
        diary = diary_with(ANN, BO)
        diary.back()
        diary.stretches()
        diary.spells_by("ann")
        diary.next_free(5, 0)
        diary.counts()
        diary.twin()
        self.assertEqual(diary.counts(), (1, 1))
        self.assertEqual(diary.forth(), "add")


class Twins(unittest.TestCase):
    def test_as_this_one(self):
        diary = diary_with(ANN, BO, CY)
        diary.cancel(10)
        diary.back()
        diary.back()
        twin = diary.twin()
        self.assertEqual((twin.stretches(), twin.counts()), ([ANN, BO], (2, 2)))
        self.assertEqual([twin.forth(), twin.forth()], ["add", "cancel"])
        self.assertEqual(twin.stretches(), [BO, CY])
        self.assertEqual([twin.back() for _ in range(4)], ["cancel", "add", "add", "add"])
        self.assertRaises(NoStep, twin.back)
        self.assertEqual((diary.stretches(), diary.counts()), ([ANN, BO], (2, 2)))

    def test_each_goes_by_itself(self):
        diary = diary_with(ANN, BO)
        diary.back()
        twin = diary.twin()
        diary.add(*CY)
        self.assertEqual((twin.stretches(), twin.counts()), ([ANN], (1, 1)))
        twin.cancel(10)
        self.assertEqual((twin.stretches(), twin.counts()), ([], (2, 0)))
        self.assertEqual((diary.stretches(), diary.counts()), ([ANN, CY], (2, 0)))
        diary.back()
        diary.back()
        self.assertEqual(twin.counts(), (2, 0))
        self.assertEqual(twin.back(), "cancel")
        self.assertEqual((diary.stretches(), twin.stretches()), ([], [ANN]))

    def test_a_twin_of_a_twin(self):
        diaries = [diary_with(ANN)]
        diaries.append(diaries[0].twin())
        diaries.append(diaries[1].twin())
        diaries[1].add(*BO)
        diaries[2].add("x", 30, 31)
        diaries[0].back()
        self.assertEqual([diary.stretches() for diary in diaries], [[], [ANN, BO], [ANN, ("x", 30, 31)]])
        self.assertEqual([diary.counts() for diary in diaries], [(0, 1), (2, 0), (2, 0)])
        diaries.append(diaries[1].twin())
        self.assertEqual([diaries[3].back(), diaries[3].back()], ["add", "add"])
        self.assertEqual([diary.stretches() for diary in diaries], [[], [ANN, BO], [ANN, ("x", 30, 31)], []])

    def test_a_twin_of_an_empty_one(self):
        twin = Diary().twin()
        self.assertEqual((twin.stretches(), twin.counts()), ([], (0, 0)))
        self.assertIsInstance(twin, Diary)


class Lists(unittest.TestCase):
    def test_what_becomes_of_a_told_list_changes_nothing_that_is_kept(self):
        diary = diary_with(ANN, BO)
        first = diary.stretches()
        diary.stretches().clear()
        diary.spells_by("ann").append((0, 1))
        self.assertEqual(diary.stretches(), [ANN, BO])
        self.assertEqual(diary.spells_by("ann"), [(10, 20)])
        diary.add(*CY)
        self.assertEqual(first, [ANN, BO])

    def test_each_diary_goes_by_itself(self):
        diary_with(ANN, BO).back()
        self.assertEqual((Diary().stretches(), Diary().counts()), ([], (0, 0)))


if __name__ == "__main__":
    unittest.main()
