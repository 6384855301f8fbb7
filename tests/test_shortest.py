"""Point 9: shortest."""

import itertools
import random
import unittest

from helper import FAR, OUT_OF_RANGE, PlainDesk, ask, claim, deal, hold_refusal, judge, last, play, plays, shortest
from helper import some_hands, withdraw

# By the way 2 and 25 first seat 2 throws 2 away, takes 10 by 12, and side 0 gets both tricks; if
# 12 is told as well seat 2 throws that away.
THROWN = deal(4, 0, (10, 25), (5, 24), (2, 12), (11, 15))
# By the way 1 side 0 gets just one of the two tricks, by the way 2 none.
KING_OUT = deal(4, 0, (0, 12), (11, 13), (26, 27), (9, 10))


class ByHand(unittest.TestCase):
    def test_k_of_0_needs_no_cards(self):
        for way, cards in itertools.product((0, 1, 2), ((), (0,), (12, 0), (51,) * 16)):
            for side in (0, 1):
                self.assertEqual(last(KING_OUT, shortest(side, 0, way, cards)), [0, 0])

    def test_the_way_alone_may_be_enough(self):
        self.assertEqual(last(KING_OUT, shortest(0, 1, 1)), [0, 0])
        self.assertEqual(last(KING_OUT, shortest(0, 1, 1, (12, 0))), [0, 0])
        self.assertEqual(last(KING_OUT, shortest(1, 1, 2, (9,))), [0, 0])

    def test_the_least_is_at_the_beginning(self):
        self.assertEqual(last(KING_OUT, shortest(0, 1, 2, (12,))), [0, 1])
        self.assertEqual(last(KING_OUT, shortest(0, 1, 0, (12, 0, 27))), [0, 1])

    def test_the_least_is_in_the_middle_of_the_row(self):
        self.assertEqual(last(KING_OUT, shortest(0, 1, 2, (26, 12, 0))), [0, 2])
        self.assertEqual(last(THROWN, shortest(0, 2, 2, (51, 25, 12))), [0, 2])

    def test_the_least_is_at_the_end_of_the_row(self):
        self.assertEqual(last(KING_OUT, shortest(0, 1, 2, (27, 26, 12))), [0, 3])
        self.assertEqual(last(KING_OUT, shortest(0, 1, 0, (51,) * 15 + (12,))), [0, 16])

    def test_no_cards_reach_k(self):
        self.assertEqual(last(KING_OUT, shortest(0, 1, 0)), [-7])
        self.assertEqual(last(KING_OUT, shortest(0, 1, 2, (0, 12))), [-7])
        self.assertEqual(last(KING_OUT, shortest(0, 2, 1, (12, 0))), [-7])
        self.assertEqual(last(KING_OUT, shortest(1, 2, 0, (11, 13, 9, 10))), [-7])

    def test_k_is_more_than_the_tricks_of_the_rest(self):
        for k in (3, 4):
            self.assertEqual(last(KING_OUT, shortest(0, k, 1, (12,))), [-7])
        everything = deal(4, 0, (0, 1, 2, 3), (13, 14, 15, 16), (4, 5, 6, 7), (26, 27, 28, 29))
        self.assertEqual(last(everything, shortest(0, 4, 0)), [0, 0])
        self.assertEqual(last(everything, *plays(0, 13, 4, 26), shortest(0, 4, 0)), [-7])

    def test_cards_that_nobody_has_and_cards_of_others(self):
        self.assertEqual(last(KING_OUT, shortest(0, 1, 2, (51, 11, 9, 50, 12, 0))), [0, 5])

    def test_cards_that_stand_twice(self):
        self.assertEqual(last(KING_OUT, shortest(0, 1, 2, (27, 27, 12, 12))), [0, 3])
        self.assertEqual(last(KING_OUT, shortest(0, 1, 2, (0, 0, 12, 12))), [-7])

    def test_judged_less_with_more_cards(self):
        cards = (25, 12, 10)
        judged = [last(THROWN, judge(0, 2, cards[:size])) for size in range(4)]
        self.assertEqual(judged, [[0, 1], [0, 2], [0, 1], [0, 1]])
        self.assertEqual([last(THROWN, shortest(0, k, 2, cards)) for k in range(4)], [[0, 0], [0, 0], [0, 1], [-7]])
        # So with no card at all: the way 1 gets a trick that the card told throws away.
        self.assertEqual(last(KING_OUT, judge(0, 1, (0,))), [0, 0])
        self.assertEqual(last(KING_OUT, shortest(0, 1, 1, (0,))), [0, 0])

    def test_of_the_position_now(self):
        self.assertEqual(last(KING_OUT, play(12), shortest(0, 1, 2, (12,))), [0, 0])
        self.assertEqual(last(KING_OUT, play(0), shortest(0, 1, 1, (12,))), [-7])
        self.assertEqual(last(KING_OUT, *plays(12, 11, 26, 9), shortest(0, 1, 1, (0,))), [-7])
        # In the trick to 11 seat 2 still has to play its 12.
        middle = (deal(4, 3, (0, 1), (3, 4), (2, 12), (11, 15)), *plays(11, 0, 3))
        self.assertEqual(last(*middle, shortest(0, 1, 2, (1, 12))), [0, 2])

    def test_while_there_is_a_claim(self):
        for side in (0, 1):
            got = ask(KING_OUT, claim(side, 0, 0), shortest(0, 1, 2, (26, 12)), shortest(0, 2, 1), withdraw())
            self.assertEqual(got[2:], [[0, 2], [-7], [0]])

    def test_no_card_is_left(self):
        done = (deal(4, 0, (0,), (1,), (2,), (3,)), *plays(0, 1, 2, 3))
        for calls in ((), done, (deal(4, 0, (), (), (), ()),)):
            self.assertEqual(last(*calls, shortest(1, 0, 0, (3, 1))), [0, 0])
            for k in (1, 4):
                self.assertEqual(last(*calls, shortest(1, k, 0, (3, 1))), [-7])


class Refused(unittest.TestCase):
    def test_numbers(self):
        for number in OUT_OF_RANGE:
            self.assertEqual(last(KING_OUT, shortest(number, 0, 0)), [-1])
            self.assertEqual(last(KING_OUT, shortest(0, number, 0)), [-1])
            self.assertEqual(last(KING_OUT, shortest(0, 0, number)), [-1])
            self.assertEqual(last(KING_OUT, shortest(0, 0, 0, (12, number))), [-1])
        for call in (shortest(2, 0, 0), shortest(0, 5, 0), shortest(0, 0, 3), shortest(0, 0, 0, (52,))):
            self.assertEqual(last(KING_OUT, call), [-1])
        self.assertEqual(last(KING_OUT, shortest(1, 0, 2, (0, 51))), [0, 0])

    def test_rows(self):
        self.assertEqual(last(KING_OUT, shortest(0, 1, 2, (12,) * 16)), [0, 1])
        for size in (17, 18, 19, 20):
            for cards in ((12,) * size, range(size), (FAR,) * size):
                self.assertEqual(last(KING_OUT, shortest(0, 1, 2, cards)), [-1])

    def test_range_is_looked_at_first(self):
        self.assertEqual(last(shortest(0, 5, 0)), [-1])
        self.assertEqual(last(KING_OUT, shortest(0, 4, 0, (52,))), [-1])
        # The first card would be enough: the others are looked at all the same.
        self.assertEqual(last(KING_OUT, shortest(0, 1, 2, (12, -1))), [-1])
        self.assertEqual(last(KING_OUT, claim(0, 0, 0), shortest(0, 4, 3)), [-1])

    def test_after_a_refusal_all_is_as_it_was(self):
        for call, code in ((shortest(0, 2, 1, (12,)), -7), (shortest(0, 5, 0), -1), (shortest(0, 0, 0, (0,) * 17), -1)):
            hold_refusal(self, (KING_OUT, play(12)), call, code)


class AgainstAPlainDesk(unittest.TestCase):
    def test_rows_of_all_lengths(self):
        source = random.Random(31)
        met = {}
        for turn_number in range(150):
            hands = some_hands(source, source.choice((2, 3)), source.choice((16, 26, 39)))
            start = deal(source.randrange(5), source.randrange(4), *hands)
            side, way = source.randrange(2), source.randrange(3)
            own = hands[side] + hands[side + 2]
            cards = [source.choice(own + [50, 51]) for place in range(source.choice((1, 3, 6, 16)))]
            calls = [start] + [shortest(side, k, way, cards) for k in range(5)]
            desk = PlainDesk()
            expected = [desk.answer(call) for call in calls]
            self.assertEqual(ask(*calls), expected, calls)
            for found in expected[2:]:
                met[found[-1]] = True
        for found in (-7, 0, 1, 2, 3):
            self.assertIn(found, met)


if __name__ == "__main__":
    unittest.main()
