"""Points 4 and 7: judge and worst, by hand and against a plain walk through all plays."""

import itertools
import random
import unittest

from helper import FAR, OUT_OF_RANGE, PlainPosition, ask, back, claim, deal, judge, last, play, plays, row, turn
from helper import some_hands, withdraw, worst

# Side 0 leads from its highest and lowest card of suit 0; the others' high cards there are parted.
KING_OUT = deal(4, 0, (0, 12), (11, 13), (26, 27), (9, 10))
CALLS = (judge, worst)


class ByHand(unittest.TestCase):
    def test_way_0_lets_each_card(self):
        # The lowest is led, 11 takes it, and 13 is of a suit that seat 0 doesn't have.
        self.assertEqual(last(KING_OUT, judge(0, 0)), [0, 0])
        self.assertEqual(last(KING_OUT, worst(0, 0)), [0, 8, 0, 11, 26, 9, 13, 27, 10, 12])

    def test_way_1_lets_the_highest(self):
        self.assertEqual(last(KING_OUT, judge(0, 1)), [0, 1])
        self.assertEqual(last(deal(4, 0, (0, 12), (2, 13), (26, 27), (14, 15)), judge(0, 1)), [0, 2])

    def test_way_2_lets_the_lowest(self):
        self.assertEqual(last(KING_OUT, judge(0, 2)), [0, 0])

    def test_highest_and_lowest_are_of_each_suit(self):
        # Highest of suit 0 (3) and of suit 1 (14): the worse is let too.
        hands = ((2, 3, 13, 14), (15, 16, 17, 18), (26, 27, 28, 29), (39, 40, 41, 42))
        self.assertEqual(last(deal(4, 0, *hands), judge(0, 1)), [0, 0])
        self.assertEqual(last(deal(4, 0, *hands), worst(0, 1))[2], 14)
        self.assertEqual(last(deal(4, 0, *hands), worst(0, 2))[2], 13)

    def test_highest_among_those_that_may_be_played(self):
        # Seat 2 must follow with suit 0, though it has the highest card of another suit too.
        hands = ((5, 6), (4, 7), (3, 50), (1, 2))
        self.assertEqual(last(deal(4, 1, *hands), play(7), worst(0, 1)), [0, 7, 3, 1, 6, 4, 50, 2, 5])

    def test_the_row_goes_before_the_way(self):
        self.assertEqual(last(KING_OUT, judge(0, 1, (0,))), [0, 0])
        self.assertEqual(last(KING_OUT, judge(0, 2, (12,))), [0, 1])
        self.assertEqual(last(KING_OUT, judge(0, 0, (12, 0))), [0, 1])
        self.assertEqual(last(KING_OUT, judge(0, 0, (0, 12))), [0, 0])

    def test_cards_of_nobody_and_cards_that_stand_twice(self):
        self.assertEqual(last(KING_OUT, judge(0, 2, (51, 50, 51, 12, 12, 0))), [0, 1])
        self.assertEqual(last(KING_OUT, judge(0, 2, (0, 12, 0, 12))), [0, 0])
        self.assertEqual(last(KING_OUT, judge(0, 1, (51, 40))), [0, 1])

    def test_the_row_is_looked_through_from_its_beginning_each_time(self):
        # Seat 0 first has no use for 13 (it must follow suit 0), later 13 goes before 25.
        hands = ((0, 13, 25), (26, 27, 28), (1, 14, 15), (2, 3, 16))
        row_of_cards = (13, 0, 25)
        got = last(deal(4, 3, *hands), play(2), worst(0, 0, row_of_cards))
        self.assertEqual(got[2], 0)
        self.assertEqual([card for card in got[2:] if card in hands[0]], [0, 13, 25])

    def test_the_other_side_is_not_bound_by_the_row(self):
        # Side 1 would lose by 5, which stands in the row; it plays 11 and wins both tricks.
        self.assertEqual(last(deal(4, 0, (0, 10), (5, 11), (1, 2), (3, 4)), judge(0, 0, (10, 5))), [0, 0])
        hands = ((12,), (11,), (0,), (1,))
        for side in (0, 1):
            self.assertEqual(last(deal(4, 0, *hands), judge(side, 0, (11, 12))), [0, 1 - side])

    def test_both_sides_judge_their_own(self):
        high = deal(4, 0, (12, 11), (0, 1), (10, 9), (2, 3))
        self.assertEqual([ask(high, judge(side, 0))[1] for side in (0, 1)], [[0, 2], [0, 0]])
        self.assertEqual([ask(high, judge(side, 1))[1] for side in (0, 1)], [[0, 2], [0, 0]])

    def test_partners_play_by_the_statement_too(self):
        # Seat 2 takes the trick from 11 by its highest card; by the way 2 it plays its low one.
        hands = ((0, 1), (11, 13), (2, 12), (14, 15))
        self.assertEqual(last(deal(4, 0, *hands), judge(0, 1)), [0, 2])
        self.assertEqual(last(deal(4, 0, *hands), judge(0, 2)), [0, 0])

    def test_a_begun_trick_is_counted(self):
        hands = ((12, 3), (0, 1), (4, 5), (6, 7))
        got = ask(deal(4, 0, *hands), play(12), judge(0, 0), play(0), judge(0, 0), play(4), judge(0, 0), play(6),
                  judge(0, 0))
        self.assertEqual([got[2], got[4], got[6], got[8]], [[0, 1], [0, 1], [0, 1], [0, 0]])

    def test_tricks_that_were_won_are_not_counted(self):
        hands = ((12, 11), (0, 1), (4, 5), (6, 7))
        self.assertEqual(last(deal(4, 0, *hands), judge(0, 0)), [0, 2])
        self.assertEqual(last(deal(4, 0, *hands), *plays(12, 0, 4, 6), judge(0, 0)), [0, 1])

    def test_no_card_is_left(self):
        done = (deal(4, 0, (0,), (1,), (2,), (3,)), *plays(0, 1, 2, 3))
        for side, way in itertools.product((0, 1), (0, 1, 2)):
            self.assertEqual(ask(*done, judge(side, way), worst(side, way, (0, 3)))[5:], [[0, 0], [0, 0]])
            self.assertEqual(ask(judge(side, way), worst(side, way, (0, 3))), [[0, 0], [0, 0]])

    def test_while_there_is_a_claim(self):
        for call in (judge(0, 1), judge(1, 2, (14,)), worst(0, 1), worst(1, 0, (11,))):
            plain = last(KING_OUT, call)
            got = ask(KING_OUT, claim(1, 1, 0), call, turn(), withdraw(), call)
            self.assertEqual(got[2:], [plain, [-8], [0], plain])

    def test_nothing_is_changed(self):
        seen = [0, 0, 0, 0, 2, 0, 12]
        got = ask(KING_OUT, judge(0, 1, (0,)), worst(0, 0), turn(), play(12), judge(0, 0), worst(1, 0), back(), turn())
        self.assertEqual(got[3], seen)
        self.assertEqual(got[-1], seen)

    def test_each_time_the_lowest_card(self):
        # All cards are as good as each other: the play is in rising order of each hand.
        hands = ((3, 1), (16, 14), (29, 27), (42, 40))
        self.assertEqual(last(deal(4, 0, *hands), worst(0, 0)), [0, 8, 1, 14, 27, 40, 3, 16, 29, 42])

    def test_worst_counts_the_trick_of_the_card_itself(self):
        # Behind either card of seat 0 it gets one more trick; but by the trump 0 it wins this one too.
        trick = (deal(0, 1, (0, 50), (14, 20), (13, 15), (16, 17)), *plays(20, 13, 16))
        self.assertEqual(last(*trick, judge(0, 0)), [0, 1])
        self.assertEqual(last(*trick, worst(0, 0)), [0, 5, 50, 14, 15, 17, 0])

    def test_worst_counts_a_trick_that_the_others_make_whole(self):
        # Behind either card of seat 3 side 0 gets one more trick; but by 0 it wins this one too.
        trick = (deal(4, 0, (10, 20), (26, 27), (1, 2), (0, 12)), *plays(10, 26, 1))
        self.assertEqual(last(*trick, judge(0, 0)), [0, 1])
        self.assertEqual(last(*trick, worst(0, 0)), [0, 5, 12, 0, 20, 27, 2])


class OutOfRange(unittest.TestCase):
    def test_numbers(self):
        for call in CALLS:
            for number in (*OUT_OF_RANGE, 2):
                self.assertEqual(last(KING_OUT, call(number, 0)), [-1])
            for number in (*OUT_OF_RANGE, 3):
                self.assertEqual(last(KING_OUT, call(0, number)), [-1])
            for number in (*OUT_OF_RANGE, 52):
                self.assertEqual(last(KING_OUT, call(0, 0, (number,))), [-1])
                self.assertEqual(last(KING_OUT, call(0, 0, (0, 12, number))), [-1])

    def test_rows(self):
        for call in CALLS:
            self.assertEqual(last(KING_OUT, call(0, 2, (12,) * 16)), last(KING_OUT, call(0, 2, (12,))))
            for size in (17, 18, 19, 20):
                self.assertEqual(last(KING_OUT, call(0, 2, (12,) * size)), [-1])
                self.assertEqual(last(KING_OUT, call(0, 2, range(size))), [-1])
                self.assertEqual(last(KING_OUT, call(0, 2, (FAR,) * size)), [-1])

    def test_the_edges_are_in(self):
        for call in CALLS:
            self.assertEqual(last(KING_OUT, call(1, 2, (0, 51)))[0], 0)

    def test_with_no_card_and_while_there_is_a_claim(self):
        for call in CALLS:
            self.assertEqual(last(call(2, 0)), [-1])
            self.assertEqual(last(KING_OUT, claim(0, 0, 0), call(0, 3)), [-1])

    def test_after_a_refusal_all_is_as_it_was(self):
        got = ask(KING_OUT, play(12), judge(2, 0), worst(0, 3), turn(), back())
        self.assertEqual(got[4:], [[0, 1, 0, 0, 1, 11], [0, 0, 0, 0]])


def some_row(source, hands):
    known = [card for hand in hands for card in hand]
    return [source.choice(known) if source.random() < 0.8 else source.randrange(52)
            for place in range(source.choice((0, 0, 1, 2, 3, 6, 16)))]


class AgainstAPlainWalk(unittest.TestCase):
    def hold(self, start, position, side, way, cards):
        best, played = min(position.all_plays(side, way, cards))
        got = ask(*start, judge(side, way, cards), worst(side, way, cards))
        self.assertEqual(got[-2:], [[0, best], [0] + row(played)], (start, side, way, cards))

    def begun(self, source, size, suits, most_played):
        """Calls that lead to a position, and the position."""
        hands = some_hands(source, size, 13 * suits)
        trump = source.randrange(5)
        leader = source.randrange(4)
        position = PlainPosition(hands, trump, leader)
        calls = [deal(trump, leader, *hands)]
        for step in range(source.randrange(most_played + 1)):
            card = source.choice(position.may_play())
            calls.append(play(card))
            position = position.behind(card)[0]
        return calls, position, hands

    def test_every_side_and_way_with_hands_of_up_to_three(self):
        source = random.Random(11)
        for turn_number in range(120):
            size = 1 + turn_number % 3
            calls, position, hands = self.begun(source, size, source.choice((2, 3, 4)), 4 * size - 1)
            for side, way in itertools.product((0, 1), (0, 1, 2)):
                self.hold(calls, position, side, way, some_row(source, hands))

    def test_like_positions_with_another_suit_to_follow(self):
        # The same cards left and the same trump ahead, but the trick was begun by another suit.
        for hands, trump, side, way in (
            (((7, 18, 31), (0, 28, 32), (2, 3, 17), (13, 15, 33)), 2, 1, 1),
            (((2, 27, 29), (16, 31, 33), (13, 14, 32), (4, 5, 19)), 1, 1, 2),
        ):
            self.hold([deal(trump, 0, *hands)], PlainPosition(hands, trump, 0), side, way, ())

    def test_hands_of_four_by_the_highest_and_lowest_and_rows(self):
        source = random.Random(12)
        for side, way in itertools.product((0, 1), (1, 2)):
            for turn_number in range(4):
                calls, position, hands = self.begun(source, 4, 3, 2)
                self.hold(calls, position, side, way, some_row(source, hands))

    def test_hands_of_four_with_each_card_let(self):
        source = random.Random(13)
        for side in (0, 1):
            for turn_number in range(3):
                calls, position, hands = self.begun(source, 4, 3, 3)
                self.hold(calls, position, side, 0, ())
                calls, position, hands = self.begun(source, 4, 4, 15)
                self.hold(calls, position, side, 0, some_row(source, hands))


if __name__ == "__main__":
    unittest.main()
