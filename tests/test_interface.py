"""The interface: how calls and answers stand in their lists, and that nothing is kept or changed."""

import contextlib
import io
import random
import unittest

import cardclaims.desk
from cardclaims.desk import answers
from helper import FAR, PlainDesk, ask, back, claim, deal, judge, play, split, turn, withdraw, worst

LINE = (
    deal(1, 0, (5, 14, 30), (6, 8, 40), (9, 41, 42), (15, 16, 31)) + turn() + play(5) + play(40) + play(6)
    + judge(0, 1, (9, 9, 51)) + claim(1, 2, 0, ()) + play(9) + worst(1, 2, (16, 15)) + withdraw() + back()
    + deal(9, 0, (FAR,) * 20, (), (-FAR,), (1,))
)


class Lists(unittest.TestCase):
    def test_each_answer_stands_behind_how_many_numbers_it_has(self):
        self.assertEqual(answers(turn()), [5, 0, 0, 0, 0, 0])
        self.assertEqual(answers(withdraw() + deal(4, 3, (0,), (1,), (2,), (3,)) + turn() + play(3) + play(9)),
                         [1, -4, 1, 0, 6, 0, 3, 0, 0, 1, 3, 4, 0, 0, 0, 0, 1, -4])

    def test_worst_tells_how_many_cards_once(self):
        self.assertEqual(answers(deal(4, 0, (0,), (1,), (2,), (3,)) + worst(0, 0)), [1, 0, 6, 0, 4, 0, 1, 2, 3])

    def test_a_call_that_is_refused_is_passed_over_whole(self):
        for wrong in (deal(5, 0, range(20), (), range(7), (FAR,)), judge(7, 7, range(20)), claim(-1, FAR, 3, (60,)),
                      worst(0, 0, (1,) * 17), play(-FAR)):
            self.assertEqual(answers(wrong + turn()), [1, -1, 5, 0, 0, 0, 0, 0])

    def test_a_hundred_calls(self):
        self.assertEqual(answers(withdraw() * 100), [1, -4] * 100)

    def test_a_list_of_whole_numbers(self):
        got = answers(list(LINE))
        self.assertIs(type(got), list)
        self.assertEqual({type(number) for number in got}, {int})


class NothingIsKeptOrChanged(unittest.TestCase):
    def test_what_is_handed_in_stays(self):
        calls = list(LINE)
        answers(calls)
        self.assertEqual(calls, LINE)

    def test_what_is_handed_in_is_not_changed_for_a_while_either(self):
        class Watched(list):
            """A list that can't be changed."""

            def refuse(self, *what):
                raise AssertionError("changed")

            __setitem__ = __delitem__ = __iadd__ = __imul__ = refuse
            append = extend = insert = pop = remove = clear = sort = reverse = refuse

        self.assertEqual(answers(Watched(LINE)), answers(LINE))

    def test_a_second_time_is_as_the_first(self):
        first = answers(list(LINE))
        self.assertEqual(answers(list(LINE)), first)
        self.assertEqual(answers(turn()), [5, 0, 0, 0, 0, 0])
        self.assertEqual(answers(list(LINE)), first)

    def test_a_claim_is_not_kept(self):
        answers(deal(4, 0, (0,), (1,), (2,), (3,)) + claim(0, 0, 0))
        self.assertEqual(answers(withdraw()), [1, -4])

    def test_what_is_given_back_is_new_each_time(self):
        first = answers(turn())
        first.append(7)
        self.assertEqual(answers(turn()), [5, 0, 0, 0, 0, 0])

    def test_nothing_is_printed(self):
        printed = io.StringIO()
        with contextlib.redirect_stdout(printed), contextlib.redirect_stderr(printed):
            answers(list(LINE))
        self.assertEqual(printed.getvalue(), "")

    def test_the_name_is_there(self):
        self.assertIs(cardclaims.desk.answers, answers)


class AgainstAPlainDesk(unittest.TestCase):
    """Whole lines of calls, wrong ones among them, held against the plain model."""

    def some_number(self, source, top):
        if source.random() < 0.04:
            return source.choice((-FAR, -1, top + 1, FAR))
        return source.randrange(top + 1)

    def some_row(self, source, cards):
        size = source.choice((0, 0, 1, 2, 4, 8, 16))
        if source.random() < 0.03:
            size = source.randrange(17, 21)
        found = [source.choice(cards) if cards and source.random() < 0.9 else source.randrange(52)
                 for place in range(size)]
        if found and source.random() < 0.03:
            found[source.randrange(size)] = source.choice((-FAR, -1, 52, FAR))
        return found

    def some_deal(self, source):
        size = source.choice((0, 1, 2, 2, 3, 3))
        cards = source.sample(range(source.choice((16, 26, 52))), 4 * size)
        hands = [cards[seat * size:(seat + 1) * size] for seat in range(4)]
        if source.random() < 0.1:
            hands[source.randrange(4)] = self.some_row(source, cards)
        return deal(self.some_number(source, 4), self.some_number(source, 3), *hands)

    def some_play(self, source, position):
        if source.random() < 0.75 and not position.empty():
            return play(source.choice(position.may_play()))
        hand = sorted(position.hands[position.on_turn()])
        if hand and source.random() < 0.6:
            return play(source.choice(hand))
        return play(self.some_number(source, 51))

    def some_call(self, source, position, asked):
        cards = sorted(card for hand in position.hands for card in hand)
        chosen = source.random()
        if chosen < 0.55:
            return self.some_play(source, position)
        if chosen < 0.75:
            return source.choice((back(), turn(), withdraw(), withdraw()))
        if chosen < 0.79 or asked == 6:
            return self.some_deal(source)
        side, k, way = [self.some_number(source, top) for top in (1, 4, 2)]
        found = self.some_row(source, cards)
        return source.choice((judge(side, way, found), worst(side, way, found), claim(side, k, way, found)))

    def test_lines(self):
        source = random.Random(14)
        met = {}
        for line_number in range(250):
            desk = PlainDesk()
            calls = []
            expected = []
            asked = 0
            for step in range(source.randrange(1, 41)):
                call = self.some_deal(source) if step == 0 else self.some_call(source, desk.now[0], asked)
                asked += call[0] in (4, 5, 7)
                calls.append(call)
                expected.append(desk.answer(call))
                met[(call[0], expected[-1][0])] = True
            self.assertEqual(ask(*calls), expected, calls)
        refusals = {0: (-1, -2), 1: (-1, -8, -3, -4, -5), 2: (-8, -3), 3: (-8,), 4: (-1,), 5: (-1, -8, -3, -2),
                    6: (-4,), 7: (-1,)}
        for number, codes in refusals.items():
            for code in (0, *codes):
                self.assertIn((number, code), met)

    def test_split_takes_the_answers_apart(self):
        self.assertEqual(split([1, -4, 2, 0, 3]), [[-4], [0, 3]])


if __name__ == "__main__":
    unittest.main()
