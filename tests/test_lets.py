"""Point 13: lets."""

import itertools
import random
import unittest

from helper import FAR, OUT_OF_RANGE, PlainDesk, ask, claim, deal, hold_refusal, last, lets, play, plays, some_hands
from helper import turn, withdraw

# Seat 0 has three cards of suit 0 and one of suit 2; seat 1 has three suits.
MIXED = deal(1, 0, (3, 5, 9, 30), (6, 8, 13, 40), (0, 41, 42, 43), (14, 15, 16, 31))


class ByHand(unittest.TestCase):
    def test_each_way(self):
        self.assertEqual(last(MIXED, lets(0, 0)), [0, 4, 3, 5, 9, 30])
        self.assertEqual(last(MIXED, lets(0, 1)), [0, 2, 9, 30])
        self.assertEqual(last(MIXED, lets(0, 2)), [0, 2, 3, 30])

    def test_the_other_side_may_play_what_it_may(self):
        for way, cards in itertools.product((0, 1, 2), ((), (9,), (51, 3, 9), (6, 8))):
            self.assertEqual(last(MIXED, lets(1, way, cards)), [0, 4, 3, 5, 9, 30])
            self.assertEqual(last(MIXED, play(3), lets(0, way, cards)), [0, 2, 6, 8])

    def test_side_1_on_turn(self):
        swapped = deal(1, 1, (14, 15, 16, 31), (3, 5, 9, 30), (6, 8, 13, 40), (0, 41, 42, 43))
        self.assertEqual(last(swapped, lets(1, 0)), [0, 4, 3, 5, 9, 30])
        self.assertEqual(last(swapped, lets(1, 1)), [0, 2, 9, 30])
        self.assertEqual(last(swapped, lets(1, 2)), [0, 2, 3, 30])
        self.assertEqual(last(swapped, lets(1, 2, (5,))), [0, 1, 5])
        self.assertEqual(last(swapped, lets(0, 2, (5,))), [0, 4, 3, 5, 9, 30])

    def test_the_first_of_the_row_that_may_be_played(self):
        for way in (0, 1, 2):
            self.assertEqual(last(MIXED, lets(0, way, (5,))), [0, 1, 5])
            self.assertEqual(last(MIXED, lets(0, way, (30, 5))), [0, 1, 30])
            self.assertEqual(last(MIXED, lets(0, way, (51, 6, 0, 5, 3, 5))), [0, 1, 5])
            self.assertEqual(last(MIXED, lets(0, way, (51,) * 15 + (3,))), [0, 1, 3])

    def test_a_row_of_which_none_may_be_played(self):
        self.assertEqual(last(MIXED, lets(0, 0, (6, 0, 51))), [0, 4, 3, 5, 9, 30])
        self.assertEqual(last(MIXED, lets(0, 1, (6, 0, 51))), [0, 2, 9, 30])
        self.assertEqual(last(MIXED, lets(0, 2, (6, 0, 51))), [0, 2, 3, 30])

    def test_in_the_middle_of_a_trick(self):
        # Seat 1 must follow: 13 and 40 are in its hand, but it may not play them.
        begun = (MIXED, play(3))
        self.assertEqual(last(*begun, lets(1, 0)), [0, 2, 6, 8])
        self.assertEqual(last(*begun, lets(1, 1)), [0, 1, 8])
        self.assertEqual(last(*begun, lets(1, 2)), [0, 1, 6])
        self.assertEqual(last(*begun, lets(1, 1, (13, 40, 6, 8))), [0, 1, 6])
        self.assertEqual(last(*begun, lets(1, 1, (13, 40))), [0, 1, 8])
        # Seat 3 has none of the suit: the highest of each suit it has.
        begun = (MIXED, *plays(3, 6, 0))
        self.assertEqual(last(*begun, lets(1, 0)), [0, 4, 14, 15, 16, 31])
        self.assertEqual(last(*begun, lets(1, 1)), [0, 2, 16, 31])
        self.assertEqual(last(*begun, lets(1, 2)), [0, 2, 14, 31])
        self.assertEqual(last(*begun, lets(1, 2, (8, 31, 14))), [0, 1, 31])

    def test_a_card_of_the_row_that_was_played_is_passed_over(self):
        begun = (MIXED, *plays(9, 6, 0, 16))
        self.assertEqual(last(*begun, turn()), [0, 3, 0, 1, 3, 14, 15, 31])
        self.assertEqual(last(*begun, lets(1, 0, (16, 31))), [0, 1, 31])

    def test_no_card_is_left(self):
        done = (deal(4, 0, (0,), (1,), (2,), (3,)), *plays(0, 1, 2, 3))
        for side, way, cards in itertools.product((0, 1), (0, 1, 2), ((), (3,))):
            for calls in ((), done, (deal(4, 0, (), (), (), ()),)):
                self.assertEqual(last(*calls, lets(side, way, cards)), [0, 0])

    def test_while_there_is_a_claim(self):
        # The claim has a statement of its own; what's asked is of this one.
        got = ask(MIXED, claim(0, 1, 1, (30,)), lets(0, 2), lets(0, 0, (5,)), lets(1, 2), withdraw(), turn())
        self.assertEqual(got[2:5], [[0, 2, 3, 30], [0, 1, 5], [0, 4, 3, 5, 9, 30]])
        self.assertEqual(last(MIXED, play(3), claim(1, 0, 0), lets(1, 1)), [0, 1, 8])

    def test_as_often_as_one_likes(self):
        self.assertEqual(ask(MIXED, *[lets(0, 1)] * 99)[1:], [[0, 2, 9, 30]] * 99)


class Refused(unittest.TestCase):
    def test_numbers(self):
        for number in OUT_OF_RANGE:
            self.assertEqual(last(MIXED, lets(number, 0)), [-1])
            self.assertEqual(last(MIXED, lets(0, number)), [-1])
            self.assertEqual(last(MIXED, lets(0, 0, (3, number))), [-1])
        for call in (lets(2, 0), lets(0, 3), lets(0, 0, (52,))):
            self.assertEqual(last(MIXED, call), [-1])
            self.assertEqual(last(call), [-1])
            self.assertEqual(last(MIXED, claim(0, 0, 0), call), [-1])
        self.assertEqual(last(MIXED, lets(1, 2, (0, 51))), [0, 4, 3, 5, 9, 30])

    def test_rows(self):
        self.assertEqual(last(MIXED, lets(0, 0, (5,) * 16)), [0, 1, 5])
        for size in (17, 18, 19, 20):
            for cards in ((5,) * size, range(size), (FAR,) * size):
                self.assertEqual(last(MIXED, lets(0, 0, cards)), [-1])

    def test_after_a_refusal_all_is_as_it_was(self):
        for call in (lets(2, 0), lets(0, 3), lets(0, 0, (52,)), lets(0, 0, (5,) * 17)):
            hold_refusal(self, (MIXED, play(3)), call, -1)


class AgainstAPlainDesk(unittest.TestCase):
    def test_through_whole_plays(self):
        source = random.Random(61)
        for step in range(40):
            desk = PlainDesk()
            hands = some_hands(source, 4, source.choice((16, 26, 52)))
            calls = [deal(source.randrange(5), source.randrange(4), *hands)]
            expected = [desk.answer(calls[0])]
            for card in range(16):
                cards = source.sample(sum(hands, []), source.choice((0, 1, 4, 16)))
                for call in (lets(0, source.randrange(3), cards), lets(1, source.randrange(3), cards),
                             play(source.choice(desk.now[0].may_play()))):
                    calls.append(call)
                    expected.append(desk.answer(call))
            self.assertEqual(ask(*calls), expected, calls)


if __name__ == "__main__":
    unittest.main()
