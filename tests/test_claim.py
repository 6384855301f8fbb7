"""Points 5 and 6: claim and withdraw."""

import unittest

from helper import FAR, OUT_OF_RANGE, ask, back, claim, deal, judge, last, play, plays, turn, withdraw, worst

# By the way 1 side 0 gets just one of the two tricks, by the way 0 perhaps none.
ONE_OF_TWO = deal(4, 0, (0, 12), (11, 13), (26, 27), (9, 10))
# All three tricks are side 0's however it plays: it leads, and nobody else has its suits.
ALL_SURE = deal(4, 0, (0, 1, 2), (13, 14, 15), (3, 4, 5), (26, 27, 28))
# Suit 3 is trump: side 0 gets both tricks if it draws the other trump by 51, else one.
ONE_SURE = deal(3, 0, (12, 51), (13, 39), (26, 27), (14, 15))


class Awarded(unittest.TestCase):
    def test_what_is_judged_is_less_than_k(self):
        self.assertEqual(last(ONE_OF_TWO, claim(0, 2, 1)), [0, 1, 0, 1])
        self.assertEqual(last(ONE_OF_TWO, claim(0, 2, 0)), [0, 0, 0, 0])
        self.assertEqual(last(ONE_OF_TWO, claim(0, 2, 2, (12,))), [0, 1, 0, 1])

    def test_k_is_less(self):
        self.assertEqual(last(ONE_OF_TWO, claim(0, 0, 1)), [0, 1, 0, 0])
        self.assertEqual(last(ONE_SURE, claim(0, 1, 0, (51,))), [0, 2, 1, 1])
        self.assertEqual(last(ONE_SURE, claim(0, 2, 0, (51,))), [0, 2, 1, 2])

    def test_what_is_sure_is_more_than_both(self):
        self.assertEqual(last(ALL_SURE, claim(0, 0, 0)), [0, 3, 3, 3])
        self.assertEqual(last(ALL_SURE, claim(0, 2, 1, (2, 1))), [0, 3, 3, 3])
        self.assertEqual(last(ONE_SURE, claim(0, 0, 0, (51,))), [0, 2, 1, 1])
        self.assertEqual(last(ONE_SURE, claim(0, 0, 0, (12,))), [0, 1, 1, 1])
        self.assertEqual(last(ONE_SURE, claim(0, 2, 0, (12,))), [0, 1, 1, 1])

    def test_k_what_is_judged_and_what_is_sure_are_one(self):
        self.assertEqual(last(ALL_SURE, claim(0, 3, 0)), [0, 3, 3, 3])
        self.assertEqual(last(ALL_SURE, claim(1, 0, 0)), [0, 0, 0, 0])

    def test_side_1(self):
        self.assertEqual(last(ALL_SURE, claim(1, 3, 1)), [0, 0, 0, 0])
        swapped = deal(4, 1, (9, 10), (0, 12), (11, 13), (26, 27))
        self.assertEqual(last(swapped, claim(1, 2, 1)), [0, 1, 0, 1])
        self.assertEqual(last(swapped, claim(1, 2, 0)), [0, 0, 0, 0])

    def test_of_the_position_now(self):
        self.assertEqual(last(ONE_OF_TWO, play(0), claim(0, 2, 1)), [0, 0, 0, 0])
        self.assertEqual(last(ONE_OF_TWO, play(12), claim(0, 2, 2)), [0, 1, 1, 1])
        # The trick that is won already isn't of the rest.
        self.assertEqual(last(ALL_SURE, *plays(0, 13, 3, 26), claim(0, 0, 0)), [0, 2, 2, 2])

    def test_judge_tells_the_same(self):
        for side in (0, 1):
            for way in (0, 1, 2):
                got = ask(ONE_OF_TWO, judge(side, way, (13, 12)), judge(side, 0), claim(side, 1, way, (13, 12)))
                self.assertEqual(got[3][1:3], [got[1][1], got[2][1]])


class Refused(unittest.TestCase):
    def test_k_is_more_than_the_tricks_of_the_rest(self):
        self.assertEqual(last(ONE_OF_TWO, claim(0, 3, 1)), [-2])
        self.assertEqual(last(ONE_OF_TWO, claim(0, 4, 1)), [-2])
        four = deal(4, 0, (0, 1, 2, 3), (13, 14, 15, 16), (4, 5, 6, 7), (26, 27, 28, 29))
        self.assertEqual(last(four, claim(0, 4, 1)), [0, 4, 4, 4])
        self.assertEqual(last(four, claim(0, 5, 1)), [-1])

    def test_a_begun_trick_is_of_the_rest(self):
        for cards in ((12,), (12, 11), (12, 11, 26)):
            self.assertEqual(last(ONE_OF_TWO, *plays(*cards), claim(0, 2, 1))[0], 0)
            self.assertEqual(last(ONE_OF_TWO, *plays(*cards), claim(0, 3, 1)), [-2])
        whole = (ONE_OF_TWO, *plays(12, 11, 26, 9))
        self.assertEqual(last(*whole, claim(0, 2, 1)), [-2])
        self.assertEqual(last(*whole, claim(0, 1, 1)), [0, 0, 0, 0])

    def test_no_card_is_left(self):
        done = (deal(4, 0, (0,), (1,), (2,), (3,)), *plays(0, 1, 2, 3))
        for k in (0, 1, 4):
            self.assertEqual(last(claim(0, k, 0)), [-3])
            self.assertEqual(last(*done, claim(0, k, 0)), [-3])
            self.assertEqual(last(deal(4, 0, (), (), (), ()), claim(0, k, 0)), [-3])

    def test_there_is_one_already(self):
        for side in (0, 1):
            self.assertEqual(last(ONE_OF_TWO, claim(side, 0, 0), claim(0, 1, 1)), [-8])
        # That too many are claimed is looked at behind it.
        self.assertEqual(last(ONE_OF_TWO, claim(0, 0, 0), claim(0, 4, 1)), [-8])

    def test_out_of_range(self):
        for number in OUT_OF_RANGE:
            self.assertEqual(last(ONE_OF_TWO, claim(number, 0, 0)), [-1])
            self.assertEqual(last(ONE_OF_TWO, claim(0, number, 0)), [-1])
            self.assertEqual(last(ONE_OF_TWO, claim(0, 0, number)), [-1])
            self.assertEqual(last(ONE_OF_TWO, claim(0, 0, 0, (number,))), [-1])
        self.assertEqual(last(ONE_OF_TWO, claim(2, 0, 0)), [-1])
        self.assertEqual(last(ONE_OF_TWO, claim(0, 5, 0)), [-1])
        self.assertEqual(last(ONE_OF_TWO, claim(0, 0, 3)), [-1])
        self.assertEqual(last(ONE_OF_TWO, claim(0, 0, 0, (52,))), [-1])
        self.assertEqual(last(ONE_OF_TWO, claim(0, 0, 0, (51,) * 16))[0], 0)
        for size in (17, 20):
            self.assertEqual(last(ONE_OF_TWO, claim(0, 0, 0, (51,) * size)), [-1])

    def test_range_is_looked_at_first(self):
        self.assertEqual(last(claim(0, 5, 0)), [-1])
        self.assertEqual(last(claim(0, 0, 0, (FAR,))), [-1])
        self.assertEqual(last(ONE_OF_TWO, claim(0, 0, 0), claim(0, 0, 3)), [-1])
        self.assertEqual(last(ONE_OF_TWO, claim(0, 4, 0, (0, -1))), [-1])

    def test_after_a_refusal_all_is_as_it_was(self):
        for call in (claim(0, 3, 0), claim(0, 5, 0), claim(2, 0, 0)):
            got = ask(ONE_OF_TWO, play(12), call, turn(), withdraw(), play(11))
            self.assertEqual(got[3:], [[0, 1, 0, 0, 1, 11], [-4], [0, 2, 0, 0]])


class WhileThereIsOne(unittest.TestCase):
    def test_no_play_back_turn_or_claim(self):
        calls = (play(11), play(50), back(), turn(), claim(0, 1, 0))
        for call in calls:
            self.assertEqual(last(ONE_OF_TWO, play(12), claim(0, 1, 1), call), [-8])
            self.assertEqual(last(ONE_OF_TWO, play(12), claim(1, 0, 1), call), [-8])
        got = ask(ONE_OF_TWO, play(12), claim(0, 1, 1), *calls, withdraw(), turn())
        self.assertEqual(got[3:], [[-8]] * 5 + [[0], [0, 1, 0, 0, 1, 11]])

    def test_judge_and_worst_go_on(self):
        got = ask(ONE_OF_TWO, claim(0, 2, 0), judge(0, 1), worst(0, 0))
        self.assertEqual(got[2:], [[0, 1], [0, 8, 0, 11, 26, 9, 13, 27, 10, 12]])


class Withdraw(unittest.TestCase):
    def test_with_none(self):
        self.assertEqual(last(withdraw()), [-4])
        self.assertEqual(ask(ONE_OF_TWO, withdraw(), turn())[1:], [[-4], [0, 0, 0, 0, 2, 0, 12]])
        self.assertEqual(ask(ONE_OF_TWO, claim(0, 0, 0), withdraw(), withdraw())[2:], [[0], [-4]])

    def test_the_play_goes_on(self):
        got = ask(ONE_OF_TWO, play(12), claim(0, 2, 1), withdraw(), turn(), play(11), play(26), play(9), back())
        self.assertEqual(got[3:], [[0], [0, 1, 0, 0, 1, 11], [0, 2, 0, 0], [0, 3, 0, 0], [0, 0, 1, 0], [0, 3, 0, 0]])

    def test_a_new_claim_may_follow(self):
        got = ask(ONE_OF_TWO, claim(0, 2, 0), withdraw(), claim(0, 2, 1), claim(0, 2, 1))
        self.assertEqual(got[1:], [[0, 0, 0, 0], [0], [0, 1, 0, 1], [-8]])


if __name__ == "__main__":
    unittest.main()
