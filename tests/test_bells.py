"""Promises 3.1 and 3.2, and what 0.3 says of bells."""

import unittest

from latebells.bells import Bell
from latebells.errors import Early


def ringing(longest=10, since=100):
    bell = Bell(longest)
    bell.ring(since)
    return bell


# Rang from 100 to 103, then put off: waits to ring again at 103 + by.
def waiting(longest=10, by=20):
    bell = ringing(longest)
    bell.put_off(103, by)
    return bell


class Still(unittest.TestCase):
    def test_it_is_still_at_first(self):
        self.assertEqual(Bell(10).state(0), "still")
        self.assertEqual(Bell(1).state(10 ** 30), "still")
        self.assertEqual(Bell(10).heard(), [])
        self.assertEqual(Bell(10).loud(), 0)

    def test_ring(self):
        bell = Bell(10)
        self.assertIs(bell.ring(0), True)
        self.assertEqual(bell.state(0), "rings")
        self.assertEqual(bell.heard(), [])

    def test_silence_does_nothing(self):
        bell = Bell(10)
        self.assertIs(bell.silence(5), False)
        self.assertEqual(bell.state(5), "still")
        self.assertEqual(bell.heard(), [])

    def test_put_off_does_nothing(self):
        for by in (0, 3):
            bell = Bell(10)
            self.assertIs(bell.put_off(5, by), False)
            self.assertEqual([bell.state(now) for now in (5, 8, 9)], ["still"] * 3)
            self.assertEqual(bell.heard(), [])


class Rings(unittest.TestCase):
    def test_state_till_it_has_rung_for_long(self):
        bell = ringing()
        self.assertEqual([bell.state(now) for now in (100, 101, 109)], ["rings"] * 3)
        self.assertEqual(bell.heard(), [])
        self.assertEqual(bell.state(110), "still")
        self.assertEqual(bell.heard(), [(100, 110, "unheard")])

    def test_the_end_is_when_it_had_rung_for_long_however_late_it_is_asked(self):
        for now in (110, 111, 10 ** 40):
            bell = ringing()
            self.assertEqual(bell.state(now), "still")
            self.assertEqual(bell.heard(), [(100, 110, "unheard")])
            self.assertEqual(bell.loud(), 10)

    def test_it_ends_once(self):
        bell = ringing()
        for now in (110, 110, 115, 120, 130):
            bell.state(now)
        self.assertEqual(bell.heard(), [(100, 110, "unheard")])

    def test_the_shortest_bell(self):
        bell = ringing(1)
        self.assertEqual(bell.state(100), "rings")
        self.assertEqual(bell.state(101), "still")
        self.assertEqual(bell.heard(), [(100, 101, "unheard")])

    def test_ring_does_not_begin_anew(self):
        for now in (100, 109):
            bell = ringing()
            self.assertIs(bell.ring(now), False)
            self.assertEqual(bell.state(109), "rings")
            self.assertEqual(bell.state(110), "still")
            self.assertEqual(bell.heard(), [(100, 110, "unheard")])

    def test_ring_at_the_end_and_behind_it(self):
        for now in (110, 111, 500):
            bell = ringing()
            self.assertIs(bell.ring(now), True)
            self.assertEqual(bell.heard(), [(100, 110, "unheard")])
            self.assertEqual(bell.state(now + 9), "rings")
            self.assertEqual(bell.state(now + 10), "still")
            self.assertEqual(bell.heard(), [(100, 110, "unheard"), (now, now + 10, "unheard")])

    def test_silence(self):
        for now in (100, 104, 109):
            bell = ringing()
            self.assertIs(bell.silence(now), True)
            self.assertEqual(bell.state(now), "still")
            self.assertEqual(bell.heard(), [(100, now, "silenced")])
            self.assertEqual(bell.loud(), now - 100)
            self.assertIs(bell.silence(now), False)
            self.assertEqual(bell.state(200), "still")
            self.assertEqual(bell.heard(), [(100, now, "silenced")])

    def test_silence_at_the_end_and_behind_it(self):
        for now in (110, 111):
            bell = ringing()
            self.assertIs(bell.silence(now), False)
            self.assertEqual(bell.heard(), [(100, 110, "unheard")])

    def test_put_off(self):
        for now in (100, 104, 109):
            bell = ringing()
            self.assertIs(bell.put_off(now, 5), True)
            self.assertEqual(bell.heard(), [(100, now, "put off")])
            self.assertEqual([bell.state(now), bell.state(now + 4)], ["waits"] * 2)
            self.assertEqual([bell.state(now + 5), bell.state(now + 14)], ["rings"] * 2)
            self.assertEqual(bell.heard(), [(100, now, "put off")])
            self.assertEqual(bell.state(now + 15), "still")
            self.assertEqual(bell.heard(), [(100, now, "put off"), (now + 5, now + 15, "unheard")])

    def test_put_off_at_the_end_and_behind_it(self):
        for now in (110, 111):
            bell = ringing()
            self.assertIs(bell.put_off(now, 5), False)
            self.assertEqual(bell.state(now + 5), "still")
            self.assertEqual(bell.heard(), [(100, 110, "unheard")])

    def test_put_off_by_0(self):
        bell = ringing()
        self.assertIs(bell.put_off(104, 0), True)
        self.assertEqual(bell.heard(), [(100, 104, "put off")])
        self.assertEqual(bell.state(104), "rings")
        self.assertEqual(bell.state(113), "rings")
        self.assertEqual(bell.state(114), "still")
        self.assertEqual(bell.heard(), [(100, 104, "put off"), (104, 114, "unheard")])

    def test_put_off_by_more_than_it_rings(self):
        bell = ringing()
        bell.put_off(104, 10 ** 30)
        self.assertEqual(bell.state(103 + 10 ** 30), "waits")
        self.assertEqual(bell.state(104 + 10 ** 30), "rings")


class Waits(unittest.TestCase):
    def test_state_ahead_of_at_and_behind_the_moment(self):
        self.assertEqual(waiting().state(122), "waits")
        self.assertEqual(waiting().state(123), "rings")
        self.assertEqual(waiting().state(132), "rings")
        self.assertEqual(waiting().state(133), "still")

    def test_asked_in_the_midst_it_rings_since_its_moment(self):
        bell = waiting()
        self.assertEqual(bell.state(130), "rings")
        self.assertIs(bell.silence(131), True)
        self.assertEqual(bell.heard(), [(100, 103, "put off"), (123, 131, "silenced")])

    def test_a_ringing_that_began_and_ended_unasked(self):
        for now in (133, 134, 10 ** 30):
            bell = waiting()
            self.assertEqual(bell.state(now), "still")
            self.assertEqual(bell.heard(), [(100, 103, "put off"), (123, 133, "unheard")])
            self.assertEqual(bell.loud(), 13)

    def test_each_deed_behind_a_ringing_that_ended_unasked(self):
        ended = [(100, 103, "put off"), (123, 133, "unheard")]
        bell = waiting()
        self.assertIs(bell.silence(133), False)
        self.assertEqual(bell.heard(), ended)
        bell = waiting()
        self.assertIs(bell.put_off(140, 1), False)
        self.assertEqual(bell.state(150), "still")
        self.assertEqual(bell.heard(), ended)
        bell = waiting()
        self.assertIs(bell.ring(133), True)
        self.assertEqual(bell.heard(), ended)
        self.assertEqual(bell.state(142), "rings")

    def test_begun_while_it_waits(self):
        bell = waiting()
        self.assertIs(bell.ring(110), True)
        self.assertEqual(bell.state(119), "rings")
        self.assertEqual(bell.state(120), "still")
        self.assertEqual([bell.state(now) for now in (122, 123, 200)], ["still"] * 3)
        self.assertEqual(bell.heard(), [(100, 103, "put off"), (110, 120, "unheard")])

    def test_begun_while_it_waits_and_still_ringing_at_the_moment(self):
        bell = waiting()
        bell.ring(120)
        self.assertEqual(bell.state(125), "rings")
        bell.silence(126)
        self.assertEqual(bell.heard(), [(100, 103, "put off"), (120, 126, "silenced")])

    def test_begun_at_the_moment_and_behind_it(self):
        for now in (123, 132):
            bell = waiting()
            self.assertIs(bell.ring(now), False)
            self.assertEqual(bell.state(now), "rings")
            self.assertEqual(bell.state(133), "still")
            self.assertEqual(bell.heard(), [(100, 103, "put off"), (123, 133, "unheard")])

    def test_silenced_while_it_waits(self):
        for now in (103, 122):
            bell = waiting()
            self.assertIs(bell.silence(now), True)
            self.assertEqual([bell.state(then) for then in (now, 123, 200)], ["still"] * 3)
            self.assertEqual(bell.heard(), [(100, 103, "put off")])
            self.assertIs(bell.silence(200), False)

    def test_silenced_at_the_moment(self):
        bell = waiting()
        self.assertIs(bell.silence(123), True)
        self.assertEqual(bell.state(123), "still")
        self.assertEqual(bell.heard(), [(100, 103, "put off"), (123, 123, "silenced")])

    def test_put_off_while_it_waits(self):
        bell = waiting()
        self.assertIs(bell.put_off(110, 50), False)
        self.assertEqual(bell.state(122), "waits")
        self.assertEqual(bell.state(123), "rings")
        self.assertEqual(bell.heard(), [(100, 103, "put off")])

    def test_put_off_again_and_again(self):
        bell = waiting()
        self.assertIs(bell.put_off(125, 7), True)
        self.assertEqual(bell.state(131), "waits")
        self.assertIs(bell.put_off(132, 1), True)
        self.assertEqual(bell.state(133), "rings")
        self.assertEqual(bell.heard(), [(100, 103, "put off"), (123, 125, "put off"), (132, 132, "put off")])


class OneMoment(unittest.TestCase):
    def test_several_deeds_at_one_moment(self):
        bell = Bell(3)
        told = [bell.ring(7), bell.ring(7), bell.silence(7), bell.silence(7), bell.ring(7), bell.put_off(7, 0),
                bell.put_off(7, 0), bell.silence(7), bell.put_off(7, 0), bell.state(7)]
        self.assertEqual(told, [True, False, True, False, True, True, True, True, False, "still"])
        self.assertEqual(bell.heard(), [(7, 7, "silenced"), (7, 7, "put off"), (7, 7, "put off"), (7, 7, "silenced")])
        self.assertEqual(bell.loud(), 0)

    def test_rung_while_it_waits_for_just_now(self):
        bell = Bell(3)
        bell.ring(7)
        bell.put_off(8, 0)
        self.assertIs(bell.ring(8), False)
        self.assertEqual(bell.state(10), "rings")
        self.assertEqual(bell.state(11), "still")
        self.assertEqual(bell.heard(), [(7, 8, "put off"), (8, 11, "unheard")])


class TooEarly(unittest.TestCase):
    def refused(self, bell, now):
        for deed in (bell.ring, bell.silence, bell.state):
            self.assertRaises(Early, deed, now)
        for by in (0, 5, 500):
            self.assertRaises(Early, bell.put_off, now, by)

    def test_each_deed_tells_of_its_moment(self):
        for word in ("ring", "silence", "state"):
            bell = Bell(10)
            getattr(bell, word)(50)
            self.refused(bell, 49)
            self.refused(bell, 0)
            self.assertIn(bell.state(50), ("rings", "still"))
        bell = Bell(10)
        bell.put_off(50, 3)
        self.refused(bell, 49)

    def test_a_deed_that_tells_false_tells_of_its_moment(self):
        bell = ringing()
        self.assertIs(bell.ring(105), False)
        self.refused(bell, 104)

    def test_the_first_moment_may_be_any(self):
        self.assertEqual(Bell(10).state(0), "still")

    def test_refused_while_it_is_still_changes_nothing(self):
        bell = ringing()
        bell.silence(105)
        self.refused(bell, 104)
        self.assertEqual(bell.state(105), "still")
        self.assertEqual(bell.heard(), [(100, 105, "silenced")])

    def test_refused_while_it_rings_changes_nothing(self):
        bell = ringing()
        bell.state(105)
        self.refused(bell, 104)
        self.assertEqual(bell.heard(), [])
        self.assertEqual(bell.state(105), "rings")
        self.assertEqual(bell.state(109), "rings")
        self.assertEqual(bell.state(110), "still")

    def test_refused_while_it_waits_changes_nothing(self):
        bell = waiting()
        self.refused(bell, 102)
        self.assertEqual(bell.heard(), [(100, 103, "put off")])
        self.assertEqual(bell.state(103), "waits")
        self.assertEqual(bell.state(122), "waits")
        self.assertEqual(bell.state(123), "rings")

    def test_the_moment_to_ring_again_is_not_one_that_was_told_of(self):
        bell = waiting()
        self.assertEqual(bell.state(104), "waits")


class HeardAndLoud(unittest.TestCase):
    def test_between_and_at_the_end(self):
        bell = Bell(10)
        bell.ring(0)
        self.assertEqual((bell.heard(), bell.loud()), ([], 0))
        bell.put_off(4, 6)
        self.assertEqual((bell.heard(), bell.loud()), ([(0, 4, "put off")], 4))
        bell.state(25)
        told = [(0, 4, "put off"), (10, 20, "unheard")]
        self.assertEqual((bell.heard(), bell.loud()), (told, 14))
        bell.ring(30)
        self.assertEqual((bell.heard(), bell.loud()), (told, 14))
        bell.silence(33)
        told.append((30, 33, "silenced"))
        self.assertEqual((bell.heard(), bell.loud()), (told, 17))

    def test_a_told_list_is_a_new_one(self):
        bell = ringing()
        bell.silence(101)
        bell.heard().append("more")
        bell.heard().clear()
        self.assertEqual(bell.heard(), [(100, 101, "silenced")])
        first = bell.heard()
        bell.ring(102)
        bell.silence(103)
        self.assertEqual(first, [(100, 101, "silenced")])

    def test_each_bell_goes_by_itself(self):
        one, other = ringing(), Bell(10)
        one.silence(105)
        self.assertEqual(other.state(0), "still")
        self.assertEqual(other.heard(), [])


if __name__ == "__main__":
    unittest.main()
