"""Point 0, deal, and what is held before the first call."""

import unittest

from helper import FAR, OUT_OF_RANGE, ask, back, claim, deal, judge, last, play, plays, turn, withdraw, worst

FOUR = ((0, 1, 2, 3), (13, 14, 15, 16), (26, 27, 28, 29), (39, 40, 41, 42))


class BeforeTheFirstCall(unittest.TestCase):
    def test_nothing_is_there(self):
        self.assertEqual(last(turn()), [0, 0, 0, 0, 0])
        self.assertEqual(last(play(0)), [-3])
        self.assertEqual(last(back()), [-3])
        self.assertEqual(last(judge(1, 2, (5,))), [0, 0])
        self.assertEqual(last(worst(0, 0)), [0, 0])
        self.assertEqual(last(claim(0, 0, 0)), [-3])
        self.assertEqual(last(withdraw()), [-4])


class Deal(unittest.TestCase):
    def test_hands_of_no_card(self):
        for leader in range(4):
            self.assertEqual(ask(deal(4, leader, (), (), (), ()), turn()), [[0], [0, leader, 0, 0, 0]])

    def test_hands_of_one_to_four_cards(self):
        for size in range(1, 5):
            hands = [hand[:size] for hand in FOUR]
            self.assertEqual(ask(deal(4, 0, *hands), turn()), [[0], [0, 0, 0, 0, size, *FOUR[0][:size]]])

    def test_hands_of_five_cards(self):
        for seat in range(4):
            hands = [(), (), (), ()]
            hands[seat] = (4, 5, 6, 7, 8)
            self.assertEqual(last(deal(4, 0, *hands)), [-1])
        five = [tuple(hand) + (hand[-1] + 1,) for hand in FOUR]
        self.assertEqual(last(deal(4, 0, *five)), [-1])

    def test_each_leader_is_on_turn_with_its_own_hand(self):
        for leader in range(4):
            self.assertEqual(last(deal(4, leader, *FOUR), turn()), [0, leader, 0, 0, 4, *FOUR[leader]])

    def test_each_trump_wins_the_trick(self):
        # Seat 0 leads the suit of its card; of the others just the one with the trump beats it.
        for trump, winner in ((0, 0), (1, 1), (2, 2), (3, 3), (4, 0)):
            hands = [hand[:1] for hand in FOUR]
            won = [1, 0] if winner % 2 == 0 else [0, 1]
            self.assertEqual(last(deal(trump, 0, *hands), *plays(0, 13, 26, 39)), [0, winner, *won])

    def test_a_hand_in_any_order(self):
        hands = ((51, 7, 20, 0), (3, 2, 1, 4), (30, 29, 31, 28), (10, 12, 11, 9))
        self.assertEqual(last(deal(4, 0, *hands), turn()), [0, 0, 0, 0, 4, 0, 7, 20, 51])

    def test_hands_of_other_sizes_than_the_first(self):
        for seat in range(4):
            for hand in ((), (5,), (5, 6, 7), (5, 6, 7, 8)):
                hands = [list(cards[:2]) for cards in ((13, 14), (26, 27), (39, 40), (50, 51))]
                hands[seat] = hand
                self.assertEqual(last(deal(4, 0, *hands)), [-2], hands)

    def test_a_card_that_stands_twice(self):
        self.assertEqual(last(deal(4, 0, (5, 5), (1, 2), (3, 4), (6, 7))), [-2])
        self.assertEqual(last(deal(4, 0, (1, 2), (3, 4), (6, 7), (5, 5))), [-2])
        self.assertEqual(last(deal(4, 0, (1, 2), (3, 4), (6, 2), (5, 8))), [-2])
        self.assertEqual(last(deal(4, 0, (1,), (3,), (6,), (1,))), [-2])
        self.assertEqual(last(deal(4, 0, (0,), (0,), (0,), (0,))), [-2])

    def test_the_edges_of_the_ranges(self):
        hands = ((0,), (51,), (1,), (50,))
        for trump in range(5):
            for leader in range(4):
                self.assertEqual(last(deal(trump, leader, *hands)), [0])
        self.assertEqual(last(deal(5, 0, *hands)), [-1])
        self.assertEqual(last(deal(4, 4, *hands)), [-1])

    def test_numbers_out_of_range(self):
        hands = [[0], [1], [2], [3]]
        for number in OUT_OF_RANGE:
            self.assertEqual(last(deal(number, 0, *hands)), [-1])
            self.assertEqual(last(deal(0, number, *hands)), [-1])
        for number in (*OUT_OF_RANGE, 52):
            for seat in range(4):
                wrong = [list(hand) for hand in hands]
                wrong[seat] = [number]
                self.assertEqual(last(deal(0, 0, *wrong)), [-1])

    def test_rows_with_too_many_numbers(self):
        for size in (5, 16, 17, 20):
            for seat in range(4):
                hands = [[], [], [], []]
                hands[seat] = list(range(size))
                self.assertEqual(ask(deal(0, 0, *hands), turn()), [[-1], [0, 0, 0, 0, 0]])

    def test_range_is_looked_at_before_the_hands(self):
        self.assertEqual(last(deal(4, 0, (1, 1), (2,), (3,), (52,))), [-1])
        self.assertEqual(last(deal(4, -1, (1, 1), (2,), (3,), (4,))), [-1])
        self.assertEqual(last(deal(FAR, 0, (1, 1), (1, 2), (1, 3), (1, 4))), [-1])

    def test_a_new_deal_takes_the_place_of_the_old(self):
        old = deal(3, 2, *FOUR)
        new = deal(4, 1, (4,), (5,), (6,), (7,))
        got = ask(old, *plays(26, 39, 0, 13), play(42), new, turn(), back())
        self.assertEqual(got[4:], [[0, 3, 0, 1], [0, 0, 0, 1], [0], [0, 1, 0, 0, 1, 5], [-3]])

    def test_a_deal_while_there_is_a_claim(self):
        new = deal(4, 1, (4,), (5,), (6,), (7,))
        got = ask(deal(4, 0, *FOUR), claim(0, 1, 0), new, turn(), withdraw())
        self.assertEqual(got[2:], [[0], [0, 1, 0, 0, 1, 5], [-4]])

    def test_after_a_refusal_all_is_as_it_was(self):
        wrong = (deal(4, 0, (1, 1), (2, 3), (4, 5), (6, 7)), deal(0, 1, (1,), (), (), ()), deal(5, 0, (), (), (), ()))
        for call in wrong:
            got = ask(deal(1, 2, *FOUR), *plays(26, 39), call, turn(), play(0), play(13), back(), turn())
            self.assertEqual(got[4:], [[0, 0, 0, 0, 4, 0, 1, 2, 3], [0, 1, 0, 0], [0, 1, 0, 1], [0, 1, 0, 0],
                                       [0, 1, 0, 0, 4, 13, 14, 15, 16]])

    def test_after_a_refusal_the_claim_is_still_there(self):
        wrong = (deal(4, 0, (1, 1), (2, 3), (4, 5), (6, 7)), deal(5, 0, (), (), (), ()))
        for call in wrong:
            got = ask(deal(4, 0, *FOUR), claim(0, 1, 0), call, turn(), withdraw(), turn())
            self.assertEqual(got[3:], [[-8], [0], [0, 0, 0, 0, 4, 0, 1, 2, 3]])


if __name__ == "__main__":
    unittest.main()
