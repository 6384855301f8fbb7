"""Call 14: told."""

import unittest

from helper import ask, back, claim, deal, last, play, plays, score, told, withdraw

KING_OUT = deal(4, 0, (0, 12), (11, 13), (26, 27), (9, 10))
DEALT = [0, 4, 0, 2, 0, 12, 2, 11, 13, 2, 26, 27, 2, 9, 10, 0, 0]
BEGUN = [0, 4, 0, 1, 0, 2, 11, 13, 2, 26, 27, 2, 9, 10, 1, 12, 1, 12]


class Told(unittest.TestCase):
    def test_before_the_first_deal(self):
        self.assertEqual(last(told()), [0, 4, 0, 0, 0, 0, 0, 0, 0, 0])

    def test_behind_a_deal(self):
        self.assertEqual(last(KING_OUT, told()), DEALT + [0])
        for trump in range(5):
            for leader in range(4):
                self.assertEqual(last(deal(trump, leader, (5,), (6,), (7,), (8,)), told()),
                                 [0, trump, leader, 1, 5, 1, 6, 1, 7, 1, 8, 0, 0, 0])

    def test_hands_that_come_in_any_order(self):
        hands = ((51, 7, 20, 0), (3, 2, 1, 4), (30, 29, 31, 28), (10, 12, 11, 9))
        self.assertEqual(last(deal(2, 3, *hands), told()),
                         [0, 2, 3, 4, 0, 7, 20, 51, 4, 1, 2, 3, 4, 4, 28, 29, 30, 31, 4, 9, 10, 11, 12, 0, 0, 0])

    def test_in_the_middle_of_a_trick(self):
        self.assertEqual(last(KING_OUT, play(12), told()), BEGUN + [0])
        # The seat that leads stays the same, whoever is on turn; the cards stand as they were played.
        self.assertEqual(last(KING_OUT, *plays(12, 11), told()),
                         [0, 4, 0, 1, 0, 1, 13, 2, 26, 27, 2, 9, 10, 2, 12, 11, 2, 12, 11, 0])
        self.assertEqual(last(KING_OUT, *plays(12, 11, 26), told()),
                         [0, 4, 0, 1, 0, 1, 13, 1, 27, 2, 9, 10, 3, 12, 11, 26, 3, 12, 11, 26, 0])
        got = last(deal(4, 3, (0,), (1,), (2,), (3,)), *plays(3, 0), told())
        self.assertEqual(got, [0, 4, 3, 0, 1, 1, 1, 2, 0, 2, 3, 0, 2, 3, 0, 0])

    def test_behind_the_end_of_a_trick(self):
        whole = (KING_OUT, *plays(0, 11, 26, 9))
        self.assertEqual(last(*whole, told()), [0, 4, 1, 1, 12, 1, 13, 1, 27, 1, 10, 0, 4, 0, 11, 26, 9, 0])
        # In the next trick just its own cards are the trick's.
        self.assertEqual(last(*whole, *plays(13, 27), told()),
                         [0, 4, 1, 1, 12, 0, 0, 1, 10, 2, 13, 27, 6, 0, 11, 26, 9, 13, 27, 0])

    def test_no_card_is_left(self):
        self.assertEqual(last(deal(0, 0, (0,), (1,), (3,), (2,)), *plays(0, 1, 3, 2), told()),
                         [0, 0, 2, 0, 0, 0, 0, 0, 4, 0, 1, 3, 2, 0])
        self.assertEqual(last(deal(1, 3, (), (), (), ()), told()), [0, 1, 3, 0, 0, 0, 0, 0, 0, 0])

    def test_behind_back(self):
        got = ask(KING_OUT, *plays(12, 11), back(), told(), back(), told())
        self.assertEqual([got[4], got[6]], [BEGUN + [0], DEALT + [0]])
        # Over the end of a trick: it is the trick again, and its leader leads to it.
        got = ask(KING_OUT, *plays(0, 11, 26), told(), play(9), play(13), back(), back(), told())
        self.assertEqual(got[4], got[9])
        self.assertEqual(got[4], [0, 4, 0, 1, 12, 1, 13, 1, 27, 2, 9, 10, 3, 0, 11, 26, 3, 0, 11, 26, 0])

    def test_with_a_claim_of_side_0(self):
        self.assertEqual(last(KING_OUT, claim(0, 2, 1), told()), DEALT + [1, 0, 2, 1, 0, 1])
        self.assertEqual(last(KING_OUT, play(12), claim(0, 0, 2, (0,)), told()), BEGUN + [1, 0, 0, 1, 1, 1])

    def test_with_a_claim_of_side_1(self):
        self.assertEqual(last(KING_OUT, claim(1, 0, 0), told()), DEALT + [1, 1, 0, 1, 1, 1])
        swapped = deal(4, 1, (9, 10), (0, 12), (11, 13), (26, 27))
        self.assertEqual(last(swapped, claim(1, 2, 1), told()),
                         [0, 4, 1, 2, 9, 10, 2, 0, 12, 2, 11, 13, 2, 26, 27, 0, 0, 1, 1, 2, 1, 0, 1])

    def test_each_number_of_a_claim_has_its_place(self):
        # Suit 3 is trump: 51 draws the other one, 12 wins, and 0 goes to what seat 3 kept.
        hands = ((0, 12, 51), (13, 14, 39), (26, 27, 28), (5, 6, 15))
        for k, awarded in ((3, 2), (2, 2), (1, 1), (0, 1)):
            got = ask(deal(3, 0, *hands), claim(0, k, 0, (51, 12)), told())
            self.assertEqual(got[1], [0, 2, 1, awarded])
            self.assertEqual(got[2][-6:], [1, 0, k, 2, 1, awarded])

    def test_behind_withdraw(self):
        got = ask(KING_OUT, play(12), claim(1, 1, 0), told(), withdraw(), told())
        self.assertEqual(got[3][-6:-4], [1, 1])
        self.assertEqual(got[5], BEGUN + [0])

    def test_behind_a_new_deal(self):
        self.assertEqual(last(KING_OUT, play(12), claim(1, 1, 0), KING_OUT, told()), DEALT + [0])

    def test_behind_calls_that_are_refused(self):
        refused = (deal(4, 0, (1, 1), (2, 3), (4, 5), (6, 7)), play(13), play(50), play(52), claim(0, 3, 0), withdraw())
        got = ask(KING_OUT, play(12), *refused, told())
        self.assertEqual(got[-1], BEGUN + [0])
        self.assertTrue(all(len(one) == 1 and one[0] < 0 for one in got[2:-1]))
        got = ask(KING_OUT, play(12), claim(0, 1, 1), play(11), back(), claim(1, 1, 0), told())
        self.assertEqual(got[-1], BEGUN + [1, 0, 1, 1, 1, 1])

    def test_nothing_is_changed(self):
        got = ask(KING_OUT, play(12), *[told()] * 20, play(11), back(), told(), score())
        self.assertEqual(got[2:22], [BEGUN + [0]] * 20)
        self.assertEqual(got[24:], [BEGUN + [0], [0, 0, 0, 0]])


if __name__ == "__main__":
    unittest.main()
