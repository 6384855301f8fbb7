"""Point 10: order."""

import itertools
import random
import unittest

from helper import FAR, OUT_OF_RANGE, PlainDesk, ask, claim, deal, hold_refusal, judge, last, order, play, plays, row
from helper import some_hands, withdraw

KING_OUT = deal(4, 0, (0, 12), (11, 13), (26, 27), (9, 10))
# All three tricks are side 0's however it plays.
ALL_SURE = deal(4, 0, (0, 1, 2), (13, 14, 15), (3, 4, 5), (26, 27, 28))
# Suit 3 is trump: side 0 gets all if 51 draws the other trump first, and then plays what it likes.
DRAW_FIRST = deal(3, 0, (10, 11, 12, 51), (13, 14, 15, 39), (26, 27, 28, 29), (16, 17, 18, 19))


class ByHand(unittest.TestCase):
    def test_no_card(self):
        self.assertEqual(last(KING_OUT, order(0, 1)), [0, 1, 0])
        self.assertEqual(last(KING_OUT, order(0, 0)), [0, 0, 0])

    def test_one_card(self):
        self.assertEqual(last(KING_OUT, order(0, 2, (12,))), [0, 1, 1, 12])
        # It must stand in the row, though the way by itself is judged more.
        self.assertEqual(last(KING_OUT, order(0, 1, (0,))), [0, 0, 1, 0])

    def test_two_cards_of_which_the_higher_must_come_first(self):
        for cards in ((0, 12), (12, 0)):
            self.assertEqual(last(KING_OUT, order(0, 0, cards)), [0, 1, 2, 12, 0])

    def test_orders_that_are_judged_alike(self):
        for cards in itertools.permutations((0, 1, 2)):
            self.assertEqual(last(ALL_SURE, order(0, 0, cards)), [0, 3, 3, 0, 1, 2])
        # What the other side has no order changes.
        self.assertEqual(last(KING_OUT, order(0, 1, (13, 11, 9))), [0, 1, 3, 9, 11, 13])
        self.assertEqual(last(KING_OUT, order(1, 0, (0, 26, 12))), [0, 1, 3, 0, 12, 26])

    def test_four_cards(self):
        for cards in ((10, 11, 12, 51), (51, 12, 11, 10), (12, 51, 10, 11)):
            self.assertEqual(last(DRAW_FIRST, order(0, 0, cards)), [0, 4, 4, 51, 10, 11, 12])
        # In rising order the trump takes 10, and the next two go to suit 1.
        self.assertEqual(last(DRAW_FIRST, judge(0, 0, (10, 11, 12, 51))), [0, 1])

    def test_cards_of_both_partners(self):
        # Seat 2 throws 2 away and takes 10 by 12; 12 before 2 is worse, and so is 10 before 25.
        thrown = deal(4, 0, (10, 25), (5, 24), (2, 12), (11, 15))
        self.assertEqual(last(thrown, order(0, 0, (2, 10, 12, 25))), [0, 2, 4, 2, 12, 25, 10])

    def test_a_card_that_nobody_has(self):
        self.assertEqual(last(KING_OUT, order(0, 0, (51, 12, 0))), [0, 1, 3, 12, 0, 51])
        self.assertEqual(last(KING_OUT, order(0, 0, (1, 0, 12))), [0, 1, 3, 1, 12, 0])
        self.assertEqual(last(KING_OUT, order(0, 1, (51, 50))), [0, 1, 2, 50, 51])

    def test_side_1(self):
        swapped = deal(4, 1, (9, 10), (0, 12), (11, 13), (26, 27))
        self.assertEqual(last(swapped, order(1, 2, (0, 12))), [0, 1, 2, 12, 0])
        self.assertEqual(last(swapped, order(0, 2, (0, 12))), [0, 1, 2, 0, 12])

    def test_of_the_position_now(self):
        self.assertEqual(last(KING_OUT, play(12), order(0, 0, (12, 0))), [0, 1, 2, 0, 12])
        self.assertEqual(last(KING_OUT, play(0), order(0, 0, (12, 0))), [0, 0, 2, 0, 12])
        middle = (deal(4, 3, (0, 1), (3, 4), (2, 12), (11, 15)), *plays(11, 0, 3))
        self.assertEqual(last(*middle, order(0, 0, (2, 12)))[2:], [2, 12, 2])

    def test_while_there_is_a_claim(self):
        for side in (0, 1):
            got = ask(KING_OUT, claim(side, 0, 0), order(0, 0, (0, 12)), order(0, 0, (0, 0)), withdraw())
            self.assertEqual(got[2:], [[0, 1, 2, 12, 0], [-6], [0]])

    def test_no_card_is_left(self):
        done = (deal(4, 0, (0,), (1,), (2,), (3,)), *plays(0, 1, 2, 3))
        for calls in ((), done, (deal(4, 0, (), (), (), ()),)):
            self.assertEqual(last(*calls, order(0, 0)), [0, 0, 0])
            self.assertEqual(last(*calls, order(1, 2, (9, 2, 40, 0))), [0, 0, 4, 0, 2, 9, 40])
            self.assertEqual(last(*calls, order(1, 2, (9, 2, 40, 0, 1))), [-6])
            self.assertEqual(last(*calls, order(1, 2, (9, 9))), [-6])


class Refused(unittest.TestCase):
    def test_more_than_four_cards(self):
        for size in (5, 6, 15, 16):
            self.assertEqual(last(KING_OUT, order(0, 0, range(size))), [-6])
            self.assertEqual(last(KING_OUT, order(0, 0, (12,) * size)), [-6])

    def test_a_card_that_stands_twice(self):
        for cards in ((12, 12), (0, 12, 0), (51, 1, 2, 51), (51, 51)):
            self.assertEqual(last(KING_OUT, order(0, 0, cards)), [-6])

    def test_numbers_out_of_range(self):
        for number in OUT_OF_RANGE:
            self.assertEqual(last(KING_OUT, order(number, 0)), [-1])
            self.assertEqual(last(KING_OUT, order(0, number)), [-1])
            self.assertEqual(last(KING_OUT, order(0, 0, (12, number))), [-1])
        for call in (order(2, 0), order(0, 3), order(0, 0, (52,))):
            self.assertEqual(last(KING_OUT, call), [-1])
        self.assertEqual(last(KING_OUT, order(1, 2, (51, 0)))[0], 0)

    def test_range_is_looked_at_first(self):
        for size in (17, 18, 19, 20):
            for cards in (range(size), (12,) * size, (FAR,) * size):
                self.assertEqual(last(KING_OUT, order(0, 0, cards)), [-1])
        for number in (*OUT_OF_RANGE, 52):
            self.assertEqual(last(KING_OUT, order(0, 0, (0, 1, 2, 3, number))), [-1])
            self.assertEqual(last(KING_OUT, order(0, 0, (number, number))), [-1])
        self.assertEqual(last(KING_OUT, order(2, 0, (0, 0))), [-1])
        self.assertEqual(last(KING_OUT, order(0, 3, range(5))), [-1])
        self.assertEqual(last(KING_OUT, claim(0, 0, 0), order(0, 3, range(5))), [-1])

    def test_after_a_refusal_all_is_as_it_was(self):
        for call, code in ((order(0, 0, range(5)), -6), (order(0, 0, (0, 0)), -6), (order(2, 0), -1)):
            hold_refusal(self, (KING_OUT, play(12)), call, code)


class AgainstAPlainDesk(unittest.TestCase):
    def hold(self, source, size, top):
        hands = some_hands(source, size, top)
        start = deal(source.randrange(5), source.randrange(4), *hands)
        side, way = source.randrange(2), source.randrange(3)
        own = hands[side] + hands[side + 2] + source.sample(hands[1 - side], 1)
        cards = source.sample(own, source.randrange(min(4, len(own)) + 1))
        desk = PlainDesk()
        desk.answer(start)
        expected = desk.answer(order(side, way, cards))
        got = ask(start, order(side, way, cards), judge(side, way, expected[3:]), judge(side, way, sorted(cards)))
        self.assertEqual(got[1], expected, (start, side, way, cards))
        self.assertEqual(got[2], expected[:2])
        return got[3][1] < expected[1]

    def test_small_hands(self):
        source = random.Random(41)
        better = [self.hold(source, source.choice((1, 2, 3)), source.choice((16, 26, 39))) for step in range(150)]
        self.assertIn(True, better)
        self.assertIn(False, better)

    def test_hands_of_four(self):
        source = random.Random(42)
        for step in range(8):
            self.hold(source, 4, 39)

    def test_the_cards_are_told_behind_how_many_they_are(self):
        for size in range(5):
            cards = (51, 0, 12, 26)[:size]
            got = last(KING_OUT, order(0, 1, cards))
            self.assertEqual(len(got), 3 + size)
            self.assertEqual(got[2:], row(got[3:]))
            self.assertEqual(sorted(got[3:]), sorted(cards))


if __name__ == "__main__":
    unittest.main()
