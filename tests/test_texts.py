"""Promises 7.1 and 7.2."""

import unittest

from latebells.errors import NoText
from latebells.texts import about, laps_text, read_laps, read_time, time_text

TIMES = {
    0: "0:00:00", 1: "0:00:01", 9: "0:00:09", 10: "0:00:10", 59: "0:00:59", 60: "0:01:00", 425: "0:07:05",
    599: "0:09:59", 600: "0:10:00", 3599: "0:59:59", 3600: "1:00:00", 3661: "1:01:01", 35999: "9:59:59",
    36000: "10:00:00", 360000: "100:00:00", 3600000: "1000:00:00", 36000000: "10000:00:00",
    359999999: "99999:59:59", 360000000: "100000:00:00", 3599999999: "999999:59:59",
}
NO_TIMES = (
    "", ":", "::", ":00:00", "0", "0:00", "0::00", "0:00:", "00:00", "0:00:00:", ":0:00:00", "0:00:00:00", "1:0:00:00",
    "00:00:00", "00:07:05", "01:00:00", "000001:00:00", "0000000:00:00", "0000001:00:00",
    "0:7:05", "0:07:5", "0:007:05", "0:07:005", "0:60:00", "0:00:60", "0:99:99", "0:61:01", "1:60:00", "1:00:60",
    "1000000:00:00", "1234567:00:00", "9999999:59:59", "1" * 5000 + ":00:00", "0:" + "1" * 5000 + ":00",
    " 0:07:05", "0:07:05 ", "0: 7:05", "0:07: 5", "0 :07:05", "0:07:05\n", "\n0:07:05", "0:\n7:05", "0:07\n:05",
    "+0:07:05", "-0:07:05", "+1:07:05", "-1:07:05", "0:+7:05", "0:-7:05", "0:07:+5", "0:07:-5", "1_0:07:05", "0:1_:05",
    "a:07:05", "0:0a:05", "0:07:a5", "0:07:05a", "0x1:07:05", "1.5:07:05", "0,07,05", "0;07;05", "0-07-05", "0.07.05",
    "425", "7m", "about", "~", "!:07:05", "1e2:07:05",
)
# Python itself refuses to write out numbers of more than 4300 figures, and to read them.
LONG_FIGURES = (
    "9" * 63, "1" + "0" * 63, "9" * 64, "1" + "0" * 64, "1" + "0" * 63 + "1", "9" * 65, "1" + "0" * 127, "9" * 128,
    "1" + "0" * 128, "12" + "0" * 100 + "34" + "0" * 100, "1234567890" * 13, "9" * 4300, "1" + "0" * 4300,
    "9" * 4301, "1" + "0" * 4299 + "7", "1" + "0" * 5000, "1234567890" * 600, "7" + "0" * 3000 + "25" + "0" * 3000,
)


def number_of(figures):
    number = 0
    for figure in figures:
        number = number * 10 + int(figure)
    return number


class Times(unittest.TestCase):
    def test_time_text(self):
        for seconds, text in TIMES.items():
            with self.subTest(seconds):
                self.assertEqual(time_text(seconds), text)

    def test_read_time(self):
        for seconds, text in TIMES.items():
            with self.subTest(text):
                told = read_time(text)
                self.assertEqual(told, seconds)
                self.assertIs(told.__class__, int)

    def test_hours_of_one_to_six_figures_are_read(self):
        for hours in (1, 12, 123, 1234, 12345, 123456):
            self.assertEqual(read_time(f"{hours}:02:03"), hours * 3600 + 123)

    def test_hours_of_seven_figures_are_written_but_not_read(self):
        self.assertEqual(time_text(3600000000), "1000000:00:00")
        self.assertEqual(time_text(10 ** 40 * 3600 + 61), "1" + "0" * 40 + ":01:01")
        self.assertRaises(NoText, read_time, time_text(3600000000))

    def test_hours_of_very_many_figures_are_written_but_not_read(self):
        for figures in LONG_FIGURES:
            hours = number_of(figures)
            for rest, end in ((0, ":00:00"), (425, ":07:05"), (3599, ":59:59")):
                with self.subTest((figures, rest)):
                    self.assertTrue(time_text(hours * 3600 + rest) == figures + end)
                    self.assertRaises(NoText, read_time, figures + end)

    def test_no_text(self):
        for text in NO_TIMES:
            with self.subTest(text):
                self.assertRaises(NoText, read_time, text)

    def test_minutes_and_seconds_up_to_59_alone(self):
        for number in range(100):
            for text, size in ((f"1:{number:02}:00", 60), (f"1:00:{number:02}", 1)):
                if number < 60:
                    self.assertEqual(read_time(text), 3600 + number * size)
                else:
                    self.assertRaises(NoText, read_time, text)


class About(unittest.TestCase):
    def test_ordinary_ones(self):
        self.assertEqual(about(5), "5s")
        self.assertEqual(about(425), "7m")
        self.assertEqual(about(8000), "2h")

    def test_at_the_borders(self):
        rows = {0: "0s", 1: "1s", 59: "59s", 60: "1m", 61: "1m", 119: "1m", 120: "2m", 3599: "59m", 3600: "1h",
                3601: "1h", 7199: "1h", 7200: "2h", 86400: "24h", 3600 * 10 ** 9 + 3599: "1000000000h"}
        for seconds, text in rows.items():
            with self.subTest(seconds):
                self.assertEqual(about(seconds), text)

    def test_hours_of_very_many_figures(self):
        for figures in LONG_FIGURES:
            for rest in (0, 59, 3599):
                with self.subTest((figures, rest)):
                    self.assertTrue(about(number_of(figures) * 3600 + rest) == figures + "h")


NO_LAPS = (
    "\n", "\n\n", " ", "1", "1\n", "1 \n", "0:00:05", "0:00:05\n", " 0:00:05\n", "10:00:05\n",
    "1 0:00:05", "1 0:00:05\n2 0:00:06", "1 0:00:05\n\n", "1 0:00:05\n\n2 0:00:06\n", "\n1 0:00:05\n",
    "1 0:00:05\n2 0:00:06\n\n", "1 0:00:05 2 0:00:06\n", "1 0:00:05\n2 0:00:06\n3",
    "0 0:00:05\n", "2 0:00:05\n", "01 0:00:05\n", "+1 0:00:05\n", "-1 0:00:05\n", "1. 0:00:05\n", "a 0:00:05\n",
    "0 0:00:05\n1 0:00:06\n", "2 0:00:05\n1 0:00:06\n", "1 0:00:05\n1 0:00:06\n", "1 0:00:05\n3 0:00:06\n",
    "1 0:00:05\n2 0:00:05\n2 0:00:06\n",
    "1  0:00:05\n", " 1 0:00:05\n", "1 0:00:05 \n", "1:0:00:05\n", "1-0:00:05\n", "10:00:05\n",
    "1 00:00:05\n", "1 0:0:05\n", "1 0:00:5\n", "1 0:60:00\n", "1 0:00:60\n", "1 1000000:00:00\n", "1 5\n", "1 5s\n",
    "1 0:00:05\n2 0:00:60\n", "1 0:00:05\n2\n", "1 0:00:05\n2 \n",
)


class Laps(unittest.TestCase):
    def test_none(self):
        self.assertEqual(laps_text([]), "")
        self.assertEqual(read_laps(""), [])

    def test_laps_text(self):
        self.assertEqual(laps_text([425]), "1 0:07:05\n")
        self.assertEqual(laps_text([3600, 0, 3600]), "1 1:00:00\n2 0:00:00\n3 1:00:00\n")

    def test_read_laps(self):
        self.assertEqual(read_laps("1 0:07:05\n"), [425])
        self.assertEqual(read_laps("1 1:00:00\n2 0:00:00\n3 1:00:00\n"), [3600, 0, 3600])
        self.assertEqual(read_laps("1 999999:59:59\n"), [3599999999])

    def test_numbers_of_two_and_three_figures(self):
        text = "".join(f"{number} 0:00:07\n" for number in range(1, 112))
        self.assertEqual(laps_text([7] * 111), text)
        self.assertEqual(read_laps(text), [7] * 111)
        self.assertRaises(NoText, read_laps, text.replace("\n100 ", "\n0100 "))
        self.assertRaises(NoText, read_laps, text.replace("\n100 ", "\n101 "))
        self.assertRaises(NoText, read_laps, text.replace("\n10 ", "\n1 "))

    def test_hours_of_seven_figures_are_written_but_not_read(self):
        self.assertEqual(laps_text([3600000000]), "1 1000000:00:00\n")
        self.assertRaises(NoText, read_laps, "1 1000000:00:00\n")

    def test_hours_of_very_many_figures_are_written_but_not_read(self):
        sizes = [number_of(figures) * 3600 + 5 for figures in LONG_FIGURES]
        text = "".join(f"{place + 1} {figures}:00:05\n" for place, figures in enumerate(LONG_FIGURES))
        self.assertTrue(laps_text(sizes) == text)
        self.assertRaises(NoText, read_laps, text)

    def test_no_text(self):
        for text in NO_LAPS:
            with self.subTest(text):
                self.assertRaises(NoText, read_laps, text)

    def test_what_is_handed_in_is_not_changed(self):
        sizes = [3, 1, 2]
        laps_text(sizes)
        self.assertEqual(sizes, [3, 1, 2])

    def test_told_lists_are_new_ones(self):
        for text, sizes in (("", []), ("1 0:00:05\n", [5])):
            read_laps(text).append(9)
            self.assertEqual(read_laps(text), sizes)


if __name__ == "__main__":
    unittest.main()
