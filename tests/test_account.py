"""Points 11 and 12: score and account."""

import random
import unittest

from helper import PlainDesk, account, ask, back, claim, deal, last, play, plays, score, some_hands, told, turn
from helper import withdraw

# Side 0 gets a trick if it leads 12 first, and none if it leads 0.
KING_OUT = deal(4, 0, (0, 12), (11, 13), (26, 27), (9, 10))
# The same with the sides swapped.
SWAPPED = deal(4, 1, (9, 10), (0, 12), (11, 13), (26, 27))
# Suit 3 is trump: side 0 gets both tricks if it draws the other trump by 51, else one.
ONE_SURE = deal(3, 0, (12, 51), (13, 39), (26, 27), (14, 15))
# Side 1 gets both tricks if seat 1 takes 10 by 11.
UNDER = deal(4, 0, (0, 10), (5, 11), (1, 2), (3, 4))
ALL_SURE = deal(4, 0, (0, 1, 2), (13, 14, 15), (3, 4, 5), (26, 27, 28))


class Score(unittest.TestCase):
    def test_with_no_claim(self):
        self.assertEqual(last(score()), [0, 0, 0, 0])
        self.assertEqual(last(KING_OUT, score()), [0, 0, 0, 0])
        self.assertEqual(last(KING_OUT, *plays(12, 11, 26), score()), [0, 0, 0, 0])
        self.assertEqual(last(KING_OUT, *plays(12, 11, 26, 9), score()), [0, 1, 0, 0])
        self.assertEqual(last(KING_OUT, *plays(12, 11, 26, 9, 0, 13), score()), [0, 1, 0, 0])
        self.assertEqual(last(KING_OUT, *plays(12, 11, 26, 9, 0, 13, 27, 10), score()), [0, 1, 1, 0])

    def test_with_a_claim_of_side_0(self):
        self.assertEqual(last(KING_OUT, claim(0, 2, 1), score()), [0, 1, 1, 1])
        self.assertEqual(last(KING_OUT, claim(0, 0, 1), score()), [0, 0, 2, 1])
        # Awarded is what is sure, though less was claimed.
        self.assertEqual(last(ALL_SURE, claim(0, 0, 0), score()), [0, 3, 0, 1])
        self.assertEqual(last(ALL_SURE, *plays(0, 13, 3, 26), claim(0, 1, 0), score()), [0, 3, 0, 1])

    def test_with_a_claim_of_side_1(self):
        self.assertEqual(last(KING_OUT, claim(1, 0, 0), score()), [0, 1, 1, 1])
        self.assertEqual(last(SWAPPED, claim(1, 2, 0), score()), [0, 2, 0, 1])
        self.assertEqual(last(SWAPPED, claim(1, 2, 1), score()), [0, 1, 1, 1])
        self.assertEqual(last(KING_OUT, *plays(12, 11, 26, 9), claim(1, 0, 0), score()), [0, 1, 1, 1])

    def test_the_others_of_the_rest_alone_go_to_the_other_side(self):
        # One trick is won by side 0, the other one is all that the claim of side 0 gives away.
        self.assertEqual(last(KING_OUT, *plays(12, 11, 26, 9), claim(0, 1, 0), score()), [0, 1, 1, 1])
        lost = (UNDER, *plays(10, 11, 1, 3))
        self.assertEqual(last(*lost, score()), [0, 0, 1, 0])
        self.assertEqual(last(*lost, claim(0, 1, 0), score()), [0, 0, 2, 1])
        self.assertEqual(last(*lost, claim(1, 0, 0), score()), [0, 0, 2, 1])

    def test_in_the_middle_of_a_trick(self):
        self.assertEqual(last(KING_OUT, play(12), claim(0, 1, 0), score()), [0, 1, 1, 1])
        self.assertEqual(last(KING_OUT, play(0), claim(0, 2, 1), score()), [0, 0, 2, 1])
        self.assertEqual(last(KING_OUT, *plays(12, 11, 26), claim(1, 2, 1), score()), [0, 1, 1, 1])
        self.assertEqual(last(KING_OUT, *plays(12, 11, 26, 9, 0), claim(1, 1, 1), score()), [0, 1, 1, 1])

    def test_behind_withdraw(self):
        got = ask(KING_OUT, claim(0, 2, 1), score(), withdraw(), score(), play(12), score())
        self.assertEqual([got[2], got[4], got[6]], [[0, 1, 1, 1], [0, 0, 0, 0], [0, 0, 0, 0]])
        got = ask(KING_OUT, *plays(12, 11, 26, 9), claim(1, 0, 0), score(), withdraw(), score())
        self.assertEqual([got[6], got[8]], [[0, 1, 1, 1], [0, 1, 0, 0]])

    def test_behind_back_and_behind_a_new_deal(self):
        got = ask(KING_OUT, *plays(12, 11, 26, 9), back(), score(), KING_OUT, score())
        self.assertEqual([got[6], got[8]], [[0, 0, 0, 0], [0, 0, 0, 0]])
        self.assertEqual(last(KING_OUT, claim(0, 1, 1), KING_OUT, score()), [0, 0, 0, 0])

    def test_a_claim_that_was_refused_is_none(self):
        self.assertEqual(last(KING_OUT, claim(0, 3, 1), score()), [0, 0, 0, 0])
        self.assertEqual(last(KING_OUT, claim(0, 2, 1), claim(1, 2, 0), score()), [0, 1, 1, 1])

    def test_nothing_is_changed(self):
        got = ask(KING_OUT, play(12), claim(0, 1, 1), told(), score(), score(), told())
        self.assertEqual(got[3], got[6])
        self.assertEqual(got[4], got[5])


class Account(unittest.TestCase):
    def test_before_the_first_deal(self):
        self.assertEqual(last(account()), [0, 0, 0, 0, 0, 0, 0, 0])

    def test_with_nothing_played(self):
        self.assertEqual(last(KING_OUT, account()), [0, 1, 0, 0, 0, 0, 0, 1])
        self.assertEqual(last(ONE_SURE, account()), [0, 2, 0, 0, 0, 0, 0, 2])
        self.assertEqual(last(SWAPPED, account()), [0, 1, 0, 0, 0, 0, 0, 1])
        self.assertEqual(last(deal(4, 2, (), (), (), ()), account()), [0, 0, 0, 0, 0, 0, 0, 0])

    def test_a_card_of_side_0_that_gives_something_away(self):
        self.assertEqual(last(KING_OUT, play(0), account()), [0, 1, 1, 0, 0, 0, 0, 0])
        self.assertEqual(last(ONE_SURE, play(12), account()), [0, 2, 1, 0, 0, 0, 0, 1])

    def test_a_card_of_side_0_that_gives_nothing_away(self):
        self.assertEqual(last(KING_OUT, play(12), account()), [0, 1, 0, 0, 0, 0, 0, 1])

    def test_a_card_of_side_1_that_gives_something_away(self):
        self.assertEqual(last(UNDER, play(10), account()), [0, 0, 0, 0, 0, 0, 0, 0])
        self.assertEqual(last(UNDER, *plays(10, 5), account()), [0, 0, 0, 1, 0, 0, 0, 1])
        self.assertEqual(last(UNDER, *plays(10, 11), account()), [0, 0, 0, 0, 0, 0, 0, 0])
        self.assertEqual(last(SWAPPED, play(0), account()), [0, 1, 0, 1, 0, 0, 0, 2])

    def test_both_sides_give_something_away(self):
        # Seat 0 doesn't draw the trump, but seat 1 doesn't play it.
        self.assertEqual(last(ONE_SURE, *plays(12, 13), account()), [0, 2, 1, 1, 0, 0, 0, 2])

    def test_behind_the_end_of_a_trick(self):
        # The trick that the fourth card made whole counts behind it, for its own side or the other.
        self.assertEqual(last(KING_OUT, *plays(12, 11, 26, 9), account()), [0, 1, 0, 0, 0, 0, 1, 0])
        self.assertEqual(last(UNDER, *plays(10, 5, 1, 3), account()), [0, 0, 0, 1, 0, 0, 1, 0])
        self.assertEqual(last(UNDER, *plays(10, 11, 1, 3), account()), [0, 0, 0, 0, 0, 0, 0, 0])

    def test_the_fourth_card_gives_its_trick_away(self):
        # Seat 3 may take the trick by 12 or leave it to 10; it gets its other trick anyway.
        trick = (deal(4, 0, (10, 20), (26, 27), (1, 2), (12, 25)), *plays(10, 26, 1))
        self.assertEqual(last(*trick, account()), [0, 0, 0, 0, 0, 0, 0, 0])
        trick = (deal(4, 0, (10, 0), (26, 27), (1, 2), (3, 12)), *plays(10, 26, 1))
        self.assertEqual(last(*trick, play(12), account()), [0, 0, 0, 0, 0, 0, 0, 0])
        self.assertEqual(last(*trick, play(3), account()), [0, 0, 0, 1, 0, 0, 1, 0])

    def test_with_back_between(self):
        got = ask(KING_OUT, play(0), account(), back(), account(), play(12), account())
        self.assertEqual([got[2], got[4], got[6]],
                         [[0, 1, 1, 0, 0, 0, 0, 0], [0, 1, 0, 0, 0, 0, 0, 1], [0, 1, 0, 0, 0, 0, 0, 1]])
        got = ask(UNDER, *plays(10, 5, 1, 3), account(), back(), back(), back(), account(), play(11), account())
        self.assertEqual([got[5], got[9], got[11]],
                         [[0, 0, 0, 1, 0, 0, 1, 0], [0, 0, 0, 0, 0, 0, 0, 0], [0, 0, 0, 0, 0, 0, 0, 0]])

    def test_with_a_claim_of_side_0(self):
        self.assertEqual(last(KING_OUT, claim(0, 2, 1), account()), [0, 1, 0, 0, 0, 0, 1, 0])
        # Awarded less than the value: by its words, and by how many it claimed.
        self.assertEqual(last(KING_OUT, claim(0, 2, 0), account()), [0, 1, 0, 0, 0, 1, 0, 0])
        self.assertEqual(last(ONE_SURE, claim(0, 1, 0, (51,)), account()), [0, 2, 0, 0, 0, 1, 1, 0])
        self.assertEqual(last(ALL_SURE, claim(0, 0, 0), account()), [0, 3, 0, 0, 0, 0, 3, 0])

    def test_with_a_claim_of_side_1(self):
        self.assertEqual(last(KING_OUT, claim(1, 0, 0), account()), [0, 1, 0, 0, 1, 0, 1, 0])
        self.assertEqual(last(SWAPPED, claim(1, 2, 0), account()), [0, 1, 0, 0, 1, 1, 2, 0])
        self.assertEqual(last(SWAPPED, claim(1, 2, 1), account()), [0, 1, 0, 0, 1, 0, 1, 0])

    def test_with_cards_played_and_a_claim(self):
        self.assertEqual(last(KING_OUT, play(0), claim(0, 2, 1), account()), [0, 1, 1, 0, 0, 0, 0, 0])
        self.assertEqual(last(UNDER, *plays(10, 5), claim(0, 0, 0), account()), [0, 0, 0, 1, 0, 0, 1, 0])
        # Seat 1's 13 may be followed by a claim of its side: it gets nothing any more.
        self.assertEqual(last(ONE_SURE, *plays(12, 13), claim(1, 2, 0), account()), [0, 2, 1, 1, 1, 0, 2, 0])
        self.assertEqual(last(KING_OUT, *plays(12, 11, 26, 9), claim(1, 0, 0), account()), [0, 1, 0, 0, 1, 0, 1, 0])

    def test_behind_withdraw(self):
        got = ask(SWAPPED, claim(1, 2, 0), account(), withdraw(), account())
        self.assertEqual([got[2], got[4]], [[0, 1, 0, 0, 1, 1, 2, 0], [0, 1, 0, 0, 0, 0, 0, 1]])

    def test_no_card_is_left(self):
        self.assertEqual(last(KING_OUT, *plays(12, 11, 26, 9, 0, 13, 27, 10), account()), [0, 1, 0, 0, 0, 0, 1, 0])
        self.assertEqual(last(KING_OUT, *plays(0, 11, 26, 9, 13, 27, 10, 12), account()), [0, 1, 1, 0, 0, 0, 0, 0])

    def test_a_new_deal_begins_a_new_account(self):
        self.assertEqual(last(KING_OUT, play(0), ONE_SURE, account()), [0, 2, 0, 0, 0, 0, 0, 2])

    def test_the_value_as_dealt_stays(self):
        got = ask(ONE_SURE, account(), play(12), account(), play(39), account(), play(26), play(14), account())
        self.assertEqual([got[place][1] for place in (1, 3, 5, 8)], [2, 2, 2, 2])

    def test_nothing_is_changed(self):
        got = ask(KING_OUT, play(12), told(), account(), account(), told(), turn())
        self.assertEqual(got[2], got[5])
        self.assertEqual(got[3], got[4])
        self.assertEqual(got[6], [0, 1, 0, 0, 1, 11])


class AgainstAPlainDesk(unittest.TestCase):
    def line(self, source, size):
        """Calls that play some cards of a deal, and perhaps claim, with account and score at the end."""
        desk = PlainDesk()
        hands = some_hands(source, size, source.choice((16, 26, 39, 52)))
        calls = [deal(source.randrange(5), source.randrange(4), *hands)]
        desk.answer(calls[0])
        for step in range(source.randrange(4 * size + 1)):
            calls.append(play(source.choice(desk.now[0].may_play())))
            desk.answer(calls[-1])
        if source.random() < 0.5:
            k = source.randrange(desk.now[0].rest() + 1)
            calls.append(claim(source.randrange(2), k, source.randrange(3), source.sample(sum(hands, []), 2)))
            desk.answer(calls[-1])
        return calls, desk

    def hold(self, source, size):
        calls, desk = self.line(source, size)
        got = ask(*calls, account(), score())
        self.assertEqual(got[-2:], [desk.account(), desk.score()], calls)
        dealt, gifts_0, gifts_1, side, by_claim, tricks, still = got[-2][1:]
        self.assertGreaterEqual(min(gifts_0, gifts_1, by_claim), 0)
        # Nothing is lost: what side 0 doesn't get of its value was given away, by one or the other.
        self.assertEqual(dealt - gifts_0 + gifts_1 + (-by_claim if side == 0 else by_claim), tricks + still)
        self.assertEqual(got[-1][1], tricks)
        return got[-2]

    def test_small_hands(self):
        source = random.Random(51)
        found = [self.hold(source, source.choice((1, 2, 3))) for step in range(200)]
        for place in range(1, 8):
            self.assertGreater(max(one[place] for one in found), 0, place)

    def test_hands_of_four(self):
        source = random.Random(52)
        for step in range(25):
            self.hold(source, 4)


if __name__ == "__main__":
    unittest.main()
