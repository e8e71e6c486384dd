"""The interface at the document's end: names and arguments of what is there so far."""

import inspect
import unittest

from latebells import clocks, watches

WATCHES = {"is_watch": 1, "fresh": 0, "shown": 2, "started": 2, "halted": 2, "lapped": 2, "cleared": 2, "lap_sizes": 1,
           "fastest": 1, "when_shown": 2, "played": 1}
CLOCKS = {"is_clock": 1, "timer": 1, "left_at": 2, "begun": 2, "stopped": 2, "longer": 3, "anew": 2, "next_ring": 2,
          "rings": 3, "how_many": 3, "skipped": 2}


class Interface(unittest.TestCase):
    def test_functions_with_their_arguments(self):
        for module, rows in ((watches, WATCHES), (clocks, CLOCKS)):
            for name, many in rows.items():
                with self.subTest((module.__name__, name)):
                    self.assertEqual(len(inspect.signature(getattr(module, name)).parameters), many)


if __name__ == "__main__":
    unittest.main()
