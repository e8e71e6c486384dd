"""Promise 13.1, and what 0.3 says of it."""

import unittest

from latebells.diaries import Diary
from latebells.diarytexts import diary_text, read_diary
from latebells.errors import NoStep, NoText, Taken

LINE = "0:00:05-0:01:00 ann\n"
TEXT = LINE + "0:01:00-0:02:00 bo\n" + "1:00:00-999999:59:59 ann\n"
STRETCHES = [("ann", 5, 60), ("bo", 60, 120), ("ann", 3600, 3599999999)]

NO_DIARIES = {
    "no line feed at the end": ("0:00:05-0:01:00 ann", LINE + "0:01:00-0:02:00 bo", "\n" + LINE[:-1]),
    "empty lines": ("\n", "\n\n", LINE + "\n", "\n" + LINE, LINE + "\n0:01:00-0:02:00 bo\n"),
    "lines out of order": ("0:01:00-0:02:00 bo\n" + LINE, LINE + "0:00:00-0:00:05 bo\n",
                           LINE + "0:03:00-0:04:00 bo\n0:02:00-0:03:00 cy\n"),
    "stretches that meet": (LINE + LINE, LINE + "0:00:59-0:02:00 bo\n", LINE + "0:00:10-0:00:20 bo\n",
                            LINE + "0:00:05-0:00:06 bo\n", LINE + "0:00:00-0:00:06 bo\n",
                            LINE + "0:01:00-0:02:00 bo\n0:01:59-0:03:00 cy\n"),
    "start not less than till": ("0:00:05-0:00:05 ann\n", "0:00:06-0:00:05 ann\n", "0:00:00-0:00:00 a\n",
                                 LINE + "0:01:00-0:01:00 bo\n", LINE + "0:02:00-0:01:00 bo\n"),
    "names that are none": ("0:00:05-0:01:00 \n", "0:00:05-0:01:00\n", "0:00:05-0:01:00 abcde\n",
                            "0:00:05-0:01:00 Ann\n", "0:00:05-0:01:00 anN\n", "0:00:05-0:01:00 an1\n",
                            "0:00:05-0:01:00 a-b\n", "0:00:05-0:01:00 a b\n", "0:00:05-0:01:00  ann\n",
                            "0:00:05-0:01:00 ann \n", "0:00:05-0:01:00 `\n", "0:00:05-0:01:00 {\n",
                            "0:00:05-0:01:00 a{\n", "0:00:05-0:01:00 @\n", "0:00:05-0:01:00 _\n"),
    "times that are not so written": ("00:00:05-0:01:00 ann\n", "0:00:05-00:01:00 ann\n", "0:0:05-0:01:00 ann\n",
                                      "0:00:05-0:01:0 ann\n", "0:00:60-0:02:00 ann\n", "0:00:05-0:60:00 ann\n",
                                      "5-60 ann\n", "0:05-1:00 ann\n", "5s-1m ann\n", "0:00:05-1000000:00:00 ann\n",
                                      "1000000:00:00-1000000:00:01 ann\n", "-0:01:00 ann\n", "0:00:05- ann\n",
                                      "- ann\n", " ann\n", "ann\n", "0:00:05 ann\n", "0:00:05- 0:01:00 ann\n",
                                      "0:00:05 -0:01:00 ann\n", " 0:00:05-0:01:00 ann\n"),
    "other signs between": ("0:00:05--0:01:00 ann\n", "0:00:05+0:01:00 ann\n", "0:00:05 0:01:00 ann\n",
                            "0:00:05-0:01:00-ann\n", "0:00:05-0:01:00ann\n", "0:00:05-0:01:00-0:02:00 ann\n",
                            "0:00:05-0:01:00\nann\n", "0:00:05-0:01:00 ann 0:01:00-0:02:00 bo\n",
                            "0:00:05-0:01:00,ann\n", "1 0:00:05-0:01:00 ann\n", "ann 0:00:05-0:01:00\n", " ", "~", "a"),
}


def diary_with(*stretches):
    diary = Diary()
    for stretch in stretches:
        diary.add(*stretch)
    return diary


class Written(unittest.TestCase):
    def test_none(self):
        self.assertEqual(diary_text(Diary()), "")

    def test_a_line_for_each_stretch_by_their_starts(self):
        self.assertEqual(diary_text(diary_with(("ann", 5, 60))), LINE)
        self.assertEqual(diary_text(diary_with(*STRETCHES)), TEXT)
        self.assertEqual(diary_text(diary_with(*STRETCHES[::-1])), TEXT)

    def test_times_of_very_many_figures_are_written_but_not_read(self):
        hours = 10 ** 5000
        text = LINE + "1" + "0" * 5000 + ":00:00-1" + "0" * 4999 + "1:01:01 bo\n"
        diary = diary_with(("bo", hours * 3600, hours * 3600 + 3661), ("ann", 5, 60))
        self.assertTrue(diary_text(diary) == text)
        self.assertRaises(NoText, read_diary, text)

    def test_behind_steps(self):
        diary = diary_with(*STRETCHES)
        diary.back()
        diary.cancel(60)
        self.assertEqual(diary_text(diary), LINE)
        self.assertEqual(diary.counts(), (3, 0))
        self.assertEqual(diary.stretches(), STRETCHES[:1])


class Read(unittest.TestCase):
    def test_none(self):
        diary = read_diary("")
        self.assertIsInstance(diary, Diary)
        self.assertEqual((diary.stretches(), diary.counts()), ([], (0, 0)))

    def test_as_the_diary_without_steps(self):
        diary = read_diary(TEXT)
        self.assertIsInstance(diary, Diary)
        self.assertEqual(diary.stretches(), STRETCHES)
        self.assertEqual(diary.counts(), (0, 0))
        self.assertRaises(NoStep, diary.back)
        self.assertRaises(NoStep, diary.forth)
        self.assertEqual(diary.spells_by("ann"), [(5, 60), (3600, 3599999999)])
        self.assertEqual(diary.next_free(10, 0), 120)

    def test_it_goes_on_as_any_diary(self):
        diary = read_diary(TEXT)
        self.assertRaises(Taken, diary.add, "cy", 59, 60)
        self.assertEqual(diary.cancel(60), ("bo", 60, 120))
        diary.add("cy", 60, 61)
        self.assertEqual(diary.counts(), (2, 0))
        twin = diary.twin()
        self.assertEqual([diary.back(), diary.back()], ["add", "cancel"])
        self.assertRaises(NoStep, diary.back)
        self.assertEqual(diary_text(diary), TEXT)
        self.assertEqual(twin.stretches(), [STRETCHES[0], ("cy", 60, 61), STRETCHES[2]])

    def test_each_is_a_new_one(self):
        read_diary(LINE).cancel(5)
        self.assertEqual(read_diary(LINE).stretches(), [("ann", 5, 60)])

    def test_names_of_one_to_four_letters(self):
        for name in ("a", "z", "az", "ann", "zzzz"):
            self.assertEqual(read_diary(f"0:00:00-0:00:01 {name}\n").stretches(), [(name, 0, 1)])

    def test_no_text(self):
        for why, texts in NO_DIARIES.items():
            for text in texts:
                with self.subTest((why, text)):
                    self.assertRaises(NoText, read_diary, text)


if __name__ == "__main__":
    unittest.main()
