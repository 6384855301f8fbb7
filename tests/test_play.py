"""Points 1 to 3: play, back and turn."""

import unittest

from helper import OUT_OF_RANGE, ask, back, claim, deal, last, play, plays, turn, withdraw

MIXED = deal(1, 0, (5, 14, 30), (6, 8, 40), (9, 41, 42), (15, 16, 31))


class Play(unittest.TestCase):
    def test_the_seats_come_in_turn(self):
        for leader in range(4):
            hands = ((0, 1), (2, 3), (4, 5), (6, 7))
            order = [(leader + n) % 4 for n in range(4)]
            got = ask(deal(4, leader, *hands), *plays(*[hands[seat][0] for seat in order]))
            self.assertEqual(got[1:4], [[0, seat, 0, 0] for seat in order[1:]])
            # Seat 3 has the highest card of all, whoever leads.
            self.assertEqual(got[4], [0, 3, 0, 1])

    def test_the_suit_must_be_followed_if_the_hand_has_it(self):
        got = ask(MIXED, play(5), turn(), play(40), play(6), turn())
        self.assertEqual(got[2:], [[0, 1, 0, 0, 2, 6, 8], [-5], [0, 2, 0, 0], [0, 2, 0, 0, 1, 9]])

    def test_a_trump_does_not_stand_for_the_suit(self):
        got = ask(deal(0, 0, (20,), (0,), (21,), (1,)), *plays(20, 0, 21, 1))
        self.assertEqual(got[-1], [0, 3, 0, 1])
        got = ask(deal(0, 0, (20, 22), (0, 25), (21, 23), (1, 24)), play(20), play(0))
        self.assertEqual(got[-1], [-5])

    def test_the_suit_of_the_first_card_counts_not_that_of_the_last(self):
        # Seat 1 has nothing of the suit; seat 2 has the suit of seat 1's card and that of the first.
        got = ask(deal(4, 0, (5, 6), (13, 14), (7, 15), (8, 16)), play(5), play(13), turn(), play(15))
        self.assertEqual(got[3:], [[0, 2, 0, 0, 1, 7], [-5]])

    def test_any_card_goes_if_the_hand_has_none_of_the_suit(self):
        got = ask(MIXED, *plays(30, 40), turn(), play(9))
        self.assertEqual(got[3:], [[0, 2, 0, 0, 3, 9, 41, 42], [0, 3, 0, 0]])

    def test_the_leader_may_play_any_card(self):
        for card in (5, 14, 30):
            self.assertEqual(last(MIXED, play(card)), [0, 1, 0, 0])

    def test_won_by_the_highest_card_of_the_first_suit(self):
        # 51 is the highest number, but not of the suit of the first card.
        self.assertEqual(last(deal(4, 0, (3,), (51,), (12,), (7,)), *plays(3, 51, 12, 7)), [0, 2, 1, 0])
        self.assertEqual(last(deal(4, 0, (39,), (12,), (25,), (38,)), *plays(39, 12, 25, 38)), [0, 0, 1, 0])
        self.assertEqual(last(deal(4, 1, (39,), (12,), (25,), (11,)), *plays(12, 25, 11, 39)), [0, 1, 0, 1])

    def test_won_by_the_only_trump(self):
        self.assertEqual(last(deal(0, 0, (51,), (50,), (49,), (0,)), *plays(51, 50, 49, 0)), [0, 3, 0, 1])

    def test_won_by_the_highest_trump(self):
        for trumps, winner in (((13, 14, 15), 3), ((13, 15, 14), 2), ((15, 14, 13), 1)):
            hands = [(12,)] + [(card,) for card in trumps]
            got = last(deal(1, 0, *hands), play(12), *plays(*trumps))
            self.assertEqual(got, [0, winner, int(winner == 2), int(winner != 2)])

    def test_a_higher_card_of_the_first_suit_behind_a_trump(self):
        self.assertEqual(last(deal(1, 0, (3,), (13,), (12,), (11,)), *plays(3, 13, 12, 11)), [0, 1, 0, 1])

    def test_trump_led(self):
        self.assertEqual(last(deal(2, 3, (38,), (37,), (0,), (26,)), *plays(26, 38, 37, 0)), [0, 0, 1, 0])

    def test_suits_part_at_thirteen(self):
        # 12 and 13 are of two suits, 13 and 25 of one.
        self.assertEqual(last(deal(4, 0, (12,), (13,), (0,), (14,)), *plays(12, 13, 0, 14)), [0, 0, 1, 0])
        self.assertEqual(last(deal(4, 0, (13,), (25,), (26,), (12,)), *plays(13, 25, 26, 12)), [0, 1, 0, 1])

    def test_the_winner_leads_to_the_next_trick(self):
        hands = ((0, 20), (1, 21), (2, 22), (3, 19))
        got = ask(deal(4, 0, *hands), *plays(0, 1, 2, 3), turn(), *plays(19, 20, 21, 22), turn())
        self.assertEqual(got[4:], [[0, 3, 0, 1], [0, 3, 0, 1, 1, 19], [0, 0, 0, 1], [0, 1, 0, 1], [0, 2, 0, 1],
                                   [0, 2, 1, 1], [0, 2, 1, 1, 0]])

    def test_no_card_is_left(self):
        got = ask(deal(4, 0, (0,), (1,), (3,), (2,)), *plays(0, 1, 3, 2), turn(), play(0), play(50), turn())
        self.assertEqual(got[4:], [[0, 2, 1, 0], [0, 2, 1, 0, 0], [-3], [-3], [0, 2, 1, 0, 0]])

    def test_a_card_that_is_not_in_the_hand_on_turn(self):
        for card in (6, 9, 31, 0, 51):
            self.assertEqual(ask(MIXED, play(card), turn())[1:], [[-4], [0, 0, 0, 0, 3, 5, 14, 30]])

    def test_a_card_that_was_played_is_gone(self):
        got = ask(deal(4, 0, (3, 4), (0, 5), (1, 6), (2, 7)), *plays(3, 0, 1, 2), play(3))
        self.assertEqual(got[-1], [-4])

    def test_out_of_range(self):
        for card in (*OUT_OF_RANGE, 52):
            self.assertEqual(last(play(card)), [-1])
            self.assertEqual(ask(MIXED, play(card), turn())[1:], [[-1], [0, 0, 0, 0, 3, 5, 14, 30]])

    def test_the_order_of_the_refusals(self):
        claimed = (MIXED, play(5), claim(0, 0, 0))
        self.assertEqual(last(*claimed, play(52)), [-1])
        for card in (6, 40, 0):
            self.assertEqual(last(*claimed, play(card)), [-8])
        self.assertEqual(last(play(0)), [-3])
        # Of a suit that need not be followed as well: that it isn't there comes first.
        self.assertEqual(last(MIXED, play(5), play(41)), [-4])

    def test_after_a_refusal_all_is_as_it_was(self):
        before = [0, 1, 0, 0, 2, 6, 8]
        got = ask(MIXED, play(5), *plays(40, 41, 5, 52), turn(), play(6), back(), back(), back())
        self.assertEqual(got[6:], [before, [0, 2, 0, 0], [0, 1, 0, 0], [0, 0, 0, 0], [-3]])


class Back(unittest.TestCase):
    def test_a_card_of_a_trick(self):
        got = ask(MIXED, *plays(5, 6), back(), turn(), play(8), turn())
        self.assertEqual(got[3:], [[0, 1, 0, 0], [0, 1, 0, 0, 2, 6, 8], [0, 2, 0, 0], [0, 2, 0, 0, 1, 9]])

    def test_the_first_card_of_a_trick(self):
        # Nothing need be followed then.
        got = ask(MIXED, play(5), back(), turn(), play(14))
        self.assertEqual(got[2:], [[0, 0, 0, 0], [0, 0, 0, 0, 3, 5, 14, 30], [0, 1, 0, 0]])

    def test_over_the_end_of_a_trick(self):
        hands = ((0, 20), (1, 21), (2, 22), (3, 19))
        got = ask(deal(4, 0, *hands), *plays(0, 1, 2, 3), back(), turn(), play(3))
        self.assertEqual(got[5:], [[0, 3, 0, 0], [0, 3, 0, 0, 1, 3], [0, 3, 0, 1]])
        got = ask(deal(4, 0, *hands), *plays(0, 1, 2, 3, 19), back(), back(), back(), turn(), play(2), play(3))
        self.assertEqual(got[6:], [[0, 3, 0, 1], [0, 3, 0, 0], [0, 2, 0, 0], [0, 2, 0, 0, 1, 2], [0, 3, 0, 0],
                                   [0, 3, 0, 1]])

    def test_the_trick_is_won_anew(self):
        # The trick's cards before the one taken back still count, the trump among them.
        hands = ((0,), (13,), (26,), (14,))
        got = ask(deal(1, 0, *hands), *plays(0, 13, 26), back(), *plays(26, 14))
        self.assertEqual(got[4:], [[0, 2, 0, 0], [0, 3, 0, 0], [0, 3, 0, 1]])

    def test_to_the_deal(self):
        got = ask(deal(4, 2, (0,), (1,), (2,), (3,)), *plays(2, 3, 0, 1), *[back()] * 5, turn())
        self.assertEqual(got[4:], [[0, 3, 0, 1], [0, 1, 0, 0], [0, 0, 0, 0], [0, 3, 0, 0], [0, 2, 0, 0], [-3],
                                   [0, 2, 0, 0, 1, 2]])

    def test_the_whole_play_and_back(self):
        hands = ((0, 14, 27, 41), (1, 15, 28, 42), (2, 16, 29, 43), (3, 13, 26, 40))
        cards = (0, 1, 2, 3, 13, 14, 15, 16, 29, 26, 27, 28, 43, 40, 41, 42)
        forth = ask(deal(4, 0, *hands), *plays(*cards))
        both = ask(deal(4, 0, *hands), *plays(*cards), *[back()] * 16)
        self.assertEqual(forth[-1], [0, 2, 3, 1])
        self.assertEqual(both[:17], forth)
        self.assertEqual(both[17:], forth[1:16][::-1] + [[0, 0, 0, 0]])

    def test_refusals(self):
        self.assertEqual(last(back()), [-3])
        self.assertEqual(last(MIXED, back()), [-3])
        self.assertEqual(last(MIXED, play(5), claim(1, 0, 0), back()), [-8])
        # A claim is looked at before whether a card was played.
        self.assertEqual(last(MIXED, claim(1, 0, 0), back()), [-8])
        self.assertEqual(last(MIXED, play(5), deal(4, 0, (), (), (), ()), back()), [-3])

    def test_after_a_refusal_all_is_as_it_was(self):
        got = ask(MIXED, play(5), claim(1, 0, 0), back(), withdraw(), turn(), back(), back(), turn())
        self.assertEqual(got[3:], [[-8], [0], [0, 1, 0, 0, 2, 6, 8], [0, 0, 0, 0], [-3], [0, 0, 0, 0, 3, 5, 14, 30]])


class Turn(unittest.TestCase):
    def test_changes_nothing(self):
        self.assertEqual(ask(MIXED, turn(), turn())[1:], [[0, 0, 0, 0, 3, 5, 14, 30]] * 2)

    def test_tricks_of_both_sides(self):
        hands = ((0, 1, 2), (3, 13, 26), (4, 14, 27), (5, 15, 28))
        got = ask(deal(4, 0, *hands), *plays(0, 3, 4, 5), turn(), *plays(28, 1, 26, 27), turn())
        self.assertEqual(got[5], [0, 3, 0, 1, 2, 15, 28])
        self.assertEqual(got[10], [0, 3, 0, 2, 1, 15])

    def test_while_there_is_a_claim(self):
        self.assertEqual(ask(MIXED, claim(0, 1, 0), turn(), withdraw(), turn())[2:],
                         [[-8], [0], [0, 0, 0, 0, 3, 5, 14, 30]])


if __name__ == "__main__":
    unittest.main()
