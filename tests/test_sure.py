"""Call 8: sure, and the value of a position, by hand and against a plain walk through all plays."""

import random
import unittest

from helper import OUT_OF_RANGE, PlainPosition, account, ask, back, claim, deal, hold_refusal, judge, last, play, plays
from helper import some_hands, sure, told, withdraw

# Side 0 gets a trick if it leads 12 first, and none if it leads 0; side 1 gets one at least.
KING_OUT = deal(4, 0, (0, 12), (11, 13), (26, 27), (9, 10))
# Suit 3 is trump: side 0 gets both tricks if it draws the other trump by 51, else one.
ONE_SURE = deal(3, 0, (12, 51), (13, 39), (26, 27), (14, 15))
# All three tricks are side 0's however it plays: it leads, and nobody else has its suits.
ALL_SURE = deal(4, 0, (0, 1, 2), (13, 14, 15), (3, 4, 5), (26, 27, 28))


def both(*calls):
    return [last(*calls, sure(side)) for side in (0, 1)]


class ByHand(unittest.TestCase):
    def test_both_sides(self):
        self.assertEqual(both(KING_OUT), [[0, 0, 1], [0, 1, 1]])
        self.assertEqual(both(ONE_SURE), [[0, 1, 2], [0, 0, 0]])
        self.assertEqual(both(ALL_SURE), [[0, 3, 3], [0, 0, 0]])

    def test_the_sides_swapped(self):
        self.assertEqual(both(deal(4, 1, (9, 10), (0, 12), (11, 13), (26, 27))), [[0, 1, 1], [0, 0, 1]])

    def test_the_other_side_plays_well_too(self):
        # Seat 1 takes 10 by 11 and has the rest; were it to play 5, side 0 would get one.
        self.assertEqual(both(deal(4, 0, (0, 10), (5, 11), (1, 2), (3, 4))), [[0, 0, 0], [0, 1, 2]])

    def test_the_partner_plays_well_too(self):
        # Seat 2 takes the trick by 12 and leads 2, or seat 0 has nothing to win by.
        self.assertEqual(both(deal(4, 0, (0, 1), (11, 13), (2, 12), (14, 15))), [[0, 0, 2], [0, 0, 0]])

    def test_in_the_middle_of_a_trick(self):
        self.assertEqual(both(KING_OUT, play(0)), [[0, 0, 0], [0, 2, 2]])
        self.assertEqual(both(KING_OUT, play(12)), [[0, 1, 1], [0, 1, 1]])
        self.assertEqual(both(KING_OUT, *plays(12, 11)), [[0, 1, 1], [0, 1, 1]])
        self.assertEqual(both(ONE_SURE, play(51)), [[0, 2, 2], [0, 0, 0]])
        self.assertEqual(both(ONE_SURE, play(12)), [[0, 1, 1], [0, 0, 1]])
        # By 13 seat 1 gives the trick away, and its trump falls under 51.
        self.assertEqual(both(ONE_SURE, play(12), play(13)), [[0, 2, 2], [0, 0, 0]])

    def test_tricks_that_were_won_are_not_counted(self):
        self.assertEqual(both(KING_OUT, *plays(12, 11, 26, 9)), [[0, 0, 0], [0, 1, 1]])
        self.assertEqual(both(ALL_SURE, *plays(0, 13, 3, 26)), [[0, 2, 2], [0, 0, 0]])

    def test_no_card_is_left(self):
        self.assertEqual(both(), [[0, 0, 0]] * 2)
        self.assertEqual(both(deal(1, 3, (), (), (), ())), [[0, 0, 0]] * 2)
        self.assertEqual(both(deal(4, 0, (0,), (1,), (2,), (3,)), *plays(0, 1, 2, 3)), [[0, 0, 0]] * 2)

    def test_while_there_is_a_claim(self):
        for claimers in (0, 1):
            got = both(KING_OUT, claim(claimers, 0, 0))
            self.assertEqual(got, [[0, 0, 1], [0, 1, 1]])
            got = ask(KING_OUT, play(0), claim(claimers, 1, 1), sure(0), sure(1), withdraw(), sure(1))
            self.assertEqual(got[3:], [[0, 0, 0], [0, 2, 2], [0], [0, 2, 2]])

    def test_nothing_is_changed(self):
        got = ask(KING_OUT, play(12), told(), sure(0), sure(1), told(), back())
        self.assertEqual(got[2], got[5])
        self.assertEqual(got[6], [0, 0, 0, 0])


class OutOfRange(unittest.TestCase):
    def test_side(self):
        for number in (*OUT_OF_RANGE, 2):
            self.assertEqual(last(sure(number)), [-1])
            self.assertEqual(last(KING_OUT, sure(number)), [-1])
            self.assertEqual(last(KING_OUT, claim(0, 0, 0), sure(number)), [-1])

    def test_after_a_refusal_all_is_as_it_was(self):
        for side in (-1, 2):
            hold_refusal(self, (KING_OUT, play(12)), sure(side), -1)


class AgainstAPlainWalk(unittest.TestCase):
    def begun(self, source, size):
        """Calls that lead to a position, and the position."""
        hands = some_hands(source, size, source.choice((16, 26, 39, 52)))
        trump, leader = source.randrange(5), source.randrange(4)
        position = PlainPosition(hands, trump, leader)
        calls = [deal(trump, leader, *hands)]
        for step in range(source.randrange(4 * size)):
            card = source.choice(position.may_play())
            calls.append(play(card))
            position = position.behind(card)[0]
        return calls, position

    def hold(self, calls, position, known):
        got = ask(*calls, sure(0), sure(1), judge(0, 0), judge(1, 0))[-4:]
        for side in (0, 1):
            self.assertEqual(got[side][2], position.value(side, known), (calls, side))
            self.assertEqual(got[side][1], got[side + 2][1])
            self.assertLessEqual(got[side][1], got[side][2])
        self.assertEqual(got[0][2] + got[1][2], position.rest())

    def test_hands_of_up_to_three(self):
        source = random.Random(21)
        for turn_number in range(150):
            self.hold(*self.begun(source, 1 + turn_number % 3), None)

    def test_hands_of_four(self):
        source = random.Random(22)
        for turn_number in range(40):
            self.hold(*self.begun(source, 4), {})

    def test_like_positions_with_another_suit_to_follow(self):
        # The same cards left and the same trump ahead, but the trick was begun by another suit.
        for hands, trump in (
            (((7, 18, 31), (0, 28, 32), (2, 3, 17), (13, 15, 33)), 2),
            (((2, 27, 29), (16, 31, 33), (13, 14, 32), (4, 5, 19)), 1),
        ):
            for leader in range(4):
                self.hold([deal(trump, leader, *hands)], PlainPosition(hands, trump, leader), None)

    def test_what_is_sure_is_found_in_some_play(self):
        source = random.Random(23)
        for turn_number in range(30):
            calls, position = self.begun(source, 1 + turn_number % 3)
            for side in (0, 1):
                least = min(tricks for tricks, played in position.all_plays(side, 0, ()))
                self.assertEqual(last(*calls, sure(side))[1], least)

    def test_account_tells_the_same_value(self):
        source = random.Random(24)
        for turn_number in range(20):
            calls, position = self.begun(source, 3)
            got = ask(*calls, sure(0), account())
            self.assertEqual(got[-1][7], got[-2][2])


if __name__ == "__main__":
    unittest.main()
