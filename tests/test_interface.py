"""The interface: how calls and answers stand in their lists, and that nothing is kept or changed."""

import contextlib
import io
import random
import unittest

import cardclaims.desk
from cardclaims.desk import answers
from helper import AT_MOST_SIX, FAR, PlainDesk, account, ask, back, claim, deal, judge, lets, order, play, score
from helper import shortest, some_hands, split, sure, told, turn, withdraw, worst

# Two that have each call between them.
LINE = (
    deal(1, 0, (5, 14, 30), (6, 8, 40), (9, 41, 42), (15, 16, 31)) + turn() + play(5) + play(40) + play(6)
    + judge(0, 1, (9, 9, 51)) + claim(1, 2, 0, ()) + play(9) + worst(1, 2, (16, 15)) + score() + told()
    + account() + withdraw() + back() + lets(1, 1, (40, 8)) + deal(9, 0, (FAR,) * 20, (), (-FAR,), (1,))
)
SECOND_LINE = (
    deal(3, 2, (30, 5, 14), (40, 8, 6), (9, 42, 41), (16, 31, 15)) + sure(1) + shortest(0, 2, 2, (51, 30, 14, 30))
    + shortest(0, 4, 0, (5,)) + order(0, 1, (42, 9, 30, 51)) + order(1, 1, (8, 8)) + lets(0, 2) + told() + account()
    + claim(0, 9, 9, (FAR,) * 20) + told()
)


class Lists(unittest.TestCase):
    def test_each_answer_stands_behind_how_many_numbers_it_has(self):
        self.assertEqual(answers(turn()), [5, 0, 0, 0, 0, 0])
        self.assertEqual(answers(withdraw() + deal(4, 3, (0,), (1,), (2,), (3,)) + turn() + play(3) + play(9)),
                         [1, -4, 1, 0, 6, 0, 3, 0, 0, 1, 3, 4, 0, 0, 0, 0, 1, -4])

    def test_worst_tells_how_many_cards_once(self):
        self.assertEqual(answers(deal(4, 0, (0,), (1,), (2,), (3,)) + worst(0, 0)), [1, 0, 6, 0, 4, 0, 1, 2, 3])

    def test_a_call_that_is_refused_is_passed_over_whole(self):
        for wrong in (deal(5, 0, range(20), (), range(7), (FAR,)), judge(7, 7, range(20)), claim(-1, FAR, 3, (60,)),
                      worst(0, 0, (1,) * 17), play(-FAR), sure(-FAR), shortest(0, 5, 0, range(20)),
                      order(FAR, -FAR, (FAR,) * 20), lets(0, 0, (-FAR,) * 20)):
            self.assertEqual(answers(wrong + turn()), [1, -1, 5, 0, 0, 0, 0, 0])

    def test_each_call_may_be_the_first_and_the_only_one(self):
        for call, expected in (
            (deal(4, 0, (), (), (), ()), [1, 0]), (play(0), [1, -3]), (back(), [1, -3]), (turn(), [5, 0, 0, 0, 0, 0]),
            (judge(0, 0), [2, 0, 0]), (claim(0, 0, 0), [1, -3]), (withdraw(), [1, -4]), (worst(0, 0), [2, 0, 0]),
            (sure(0), [3, 0, 0, 0]), (shortest(0, 0, 0), [2, 0, 0]), (shortest(0, 1, 0), [1, -7]),
            (order(0, 0), [3, 0, 0, 0]), (order(0, 0, (1, 1)), [1, -6]), (score(), [4, 0, 0, 0, 0]),
            (account(), [8, 0, 0, 0, 0, 0, 0, 0, 0]), (lets(0, 0), [2, 0, 0]),
            (told(), [10, 0, 4, 0, 0, 0, 0, 0, 0, 0, 0]),
        ):
            self.assertEqual(answers(call), expected, call)

    def test_the_counts_that_the_words_tell_and_no_others(self):
        start = deal(3, 1, (0, 13), (1, 14), (2, 15), (3, 16))
        self.assertEqual(answers(start + play(14) + lets(0, 0) + order(1, 0, (2, 1)) + score() + told()),
                         [1, 0, 4, 0, 2, 0, 0, 3, 0, 1, 15, 5, 0, 2, 2, 1, 2, 4, 0, 0, 0, 0,
                          19, 0, 3, 1, 2, 0, 13, 1, 1, 2, 2, 15, 2, 3, 16, 1, 14, 1, 14, 0])

    def test_a_hundred_calls(self):
        self.assertEqual(answers(withdraw() * 100), [1, -4] * 100)
        self.assertEqual(answers(lets(0, 0, (51,) * 20) * 100), [1, -1] * 100)
        self.assertEqual(answers(told() * 100), [10, 0, 4, 0, 0, 0, 0, 0, 0, 0, 0] * 100)

    def test_the_longest_list(self):
        wrong = deal(FAR, -FAR, *[(FAR,) * 20] * 4)
        self.assertEqual(answers(wrong * 100), [1, -1] * 100)

    def test_a_list_of_whole_numbers(self):
        for line in (LINE, SECOND_LINE):
            got = answers(list(line))
            self.assertIs(type(got), list)
            self.assertEqual({type(number) for number in got}, {int})


class NothingIsKeptOrChanged(unittest.TestCase):
    def test_what_is_handed_in_stays(self):
        for line in (LINE, SECOND_LINE):
            calls = list(line)
            answers(calls)
            self.assertEqual(calls, line)

    def test_what_is_handed_in_is_not_changed_for_a_while_either(self):
        class Watched(list):
            """A list that can't be changed."""

            def refuse(self, *what):
                raise AssertionError("changed")

            __setitem__ = __delitem__ = __iadd__ = __imul__ = refuse
            append = extend = insert = pop = remove = clear = sort = reverse = refuse

        for line in (LINE, SECOND_LINE):
            self.assertEqual(answers(Watched(line)), answers(line))

    def test_a_second_time_is_as_the_first(self):
        first = answers(list(LINE))
        second = answers(list(SECOND_LINE))
        self.assertEqual(answers(list(LINE)), first)
        self.assertEqual(answers(turn()), [5, 0, 0, 0, 0, 0])
        self.assertEqual(answers(told()), [10, 0, 4, 0, 0, 0, 0, 0, 0, 0, 0])
        self.assertEqual(answers(list(SECOND_LINE)), second)
        self.assertEqual(answers(list(LINE)), first)

    def test_a_claim_is_not_kept(self):
        answers(deal(4, 0, (0,), (1,), (2,), (3,)) + claim(0, 0, 0))
        self.assertEqual(answers(withdraw()), [1, -4])

    def test_what_is_given_back_is_new_each_time(self):
        first = answers(turn())
        first.append(7)
        self.assertEqual(answers(turn()), [5, 0, 0, 0, 0, 0])

    def test_nothing_is_printed(self):
        printed = io.StringIO()
        with contextlib.redirect_stdout(printed), contextlib.redirect_stderr(printed):
            answers(list(LINE))
            answers(list(SECOND_LINE))
        self.assertEqual(printed.getvalue(), "")

    def test_the_name_is_there(self):
        self.assertIs(cardclaims.desk.answers, answers)


class AgainstAPlainDesk(unittest.TestCase):
    """Whole lines of calls, wrong ones among them, held against the plain model."""

    def some_number(self, source, top):
        if source.random() < 0.04:
            return source.choice((-FAR, -1, top + 1, FAR))
        return source.randrange(top + 1)

    def some_row(self, source, cards):
        size = source.choice((0, 0, 1, 2, 4, 8, 16))
        if source.random() < 0.03:
            size = source.randrange(17, 21)
        found = [source.choice(cards) if cards and source.random() < 0.9 else source.randrange(52)
                 for place in range(size)]
        if found and source.random() < 0.03:
            found[source.randrange(size)] = source.choice((-FAR, -1, 52, FAR))
        return found

    def some_deal(self, source):
        hands = some_hands(source, source.choice((0, 1, 2, 2, 3, 3)), source.choice((16, 26, 52)))
        if source.random() < 0.1:
            hands[source.randrange(4)] = self.some_row(source, sum(hands, []))
        return deal(self.some_number(source, 4), self.some_number(source, 3), *hands)

    def some_play(self, source, position):
        if source.random() < 0.75 and not position.empty():
            return play(source.choice(position.may_play()))
        hand = sorted(position.hands[position.on_turn()])
        if hand and source.random() < 0.6:
            return play(source.choice(hand))
        return play(self.some_number(source, 51))

    def some_question(self, source, cards):
        """One of the calls of which a line has at most 6."""
        side, k, way = [self.some_number(source, top) for top in (1, 4, 2)]
        found = self.some_row(source, cards)
        few = source.sample(cards, min(len(cards), source.randrange(5)))
        return source.choice((
            judge(side, way, found), worst(side, way, found), claim(side, k, way, found), sure(side),
            shortest(side, k, way, found), order(side, way, few), order(side, way, found), account(),
        ))

    def some_call(self, source, position, asked):
        cards = sorted(card for hand in position.hands for card in hand)
        chosen = source.random()
        if chosen < 0.5:
            return self.some_play(source, position)
        if chosen < 0.65:
            return source.choice((back(), turn(), withdraw(), withdraw()))
        if chosen < 0.8:
            statement = [self.some_number(source, 1), self.some_number(source, 2), self.some_row(source, cards)]
            return source.choice((score(), told(), lets(*statement)))
        if chosen < 0.84 or asked == 6:
            return self.some_deal(source)
        return self.some_question(source, cards)

    def hold(self, source, length, met):
        """One line of so many calls is answered as by the plain desk; met gathers what was answered."""
        desk = PlainDesk()
        calls = []
        expected = []
        asked = 0
        for step in range(length):
            call = self.some_deal(source) if step == 0 else self.some_call(source, desk.now[0], asked)
            asked += call[0] in AT_MOST_SIX
            calls.append(call)
            expected.append(desk.answer(call))
            met[(call[0], expected[-1][0])] = True
        self.assertEqual(ask(*calls), expected, calls)

    def test_lines(self):
        source = random.Random(14)
        met = {}
        for line_number in range(300):
            self.hold(source, source.randrange(1, 41), met)
        refusals = {0: (-1, -2), 1: (-1, -8, -3, -4, -5), 2: (-8, -3), 3: (-8,), 4: (-1,), 5: (-1, -8, -3, -2),
                    6: (-4,), 7: (-1,), 8: (-1,), 9: (-1, -7), 10: (-1, -6), 11: (), 12: (), 13: (-1,), 14: ()}
        for number, codes in refusals.items():
            for code in (0, *codes):
                self.assertIn((number, code), met)

    def test_lines_of_a_hundred_calls(self):
        source = random.Random(15)
        met = {}
        for line_number in range(60):
            self.hold(source, 100, met)
        self.assertEqual({number for number, code in met if code == 0}, set(range(15)))

    def test_six_questions_with_hands_of_four(self):
        source = random.Random(16)
        for line_number in range(20):
            desk = PlainDesk()
            hands = some_hands(source, 4, source.choice((26, 39, 52)))
            calls = [deal(source.randrange(5), source.randrange(4), *hands)]
            expected = [desk.answer(calls[0])]
            for step in range(6):
                question = self.some_question(source, sum(hands, []))
                for call in (question, score(), told(), withdraw(), self.some_play(source, desk.now[0])):
                    calls.append(call)
                    expected.append(desk.answer(call))
            self.assertEqual(ask(*calls), expected, calls)

    def test_six_of_each_question_before_a_card_is_played(self):
        hands = ((11, 16, 8, 4), (5, 7, 2, 9), (24, 17, 13, 15), (14, 20, 18, 23))
        cards = (24, 17, 13, 15)
        for call in (judge(0, 0), worst(1, 0), sure(1), shortest(0, 4, 0, cards + hands[0] + cards + hands[0]),
                     order(0, 0, cards), account()):
            desk = PlainDesk()
            calls = [deal(3, 0, *hands)] + [call] * 6
            self.assertEqual(ask(*calls), [desk.answer(one) for one in calls[:2]] + [desk.answer(call)] * 5)
        calls = [deal(3, 0, *hands)] + [claim(0, 4, 0, cards), withdraw()] * 6
        desk = PlainDesk()
        self.assertEqual(ask(*calls), [desk.answer(one) for one in calls])

    def test_split_takes_the_answers_apart(self):
        self.assertEqual(split([1, -4, 2, 0, 3]), [[-4], [0, 3]])


if __name__ == "__main__":
    unittest.main()
