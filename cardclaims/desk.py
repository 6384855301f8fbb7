"""The desk: takes calls on an ending and answers them."""

from cardclaims.accounting import account_of, score_of
from cardclaims.ending import Claim, Ending, begin, put_card, take_card_back
from cardclaims.judging import Judging, judged, sure_for, worst_play
from cardclaims.position import SEATS, Deal, hand_of, leader_of, may_play, tricks_of_rest
from cardclaims.reading import call_at, in_range
from cardclaims.statement import Statement, cards_let
from cardclaims.valuing import Valuing, value
from cardclaims.wording import Wording, best_order, cards_needed, judged_with_row

NOT_IN_RANGE = -1
HANDS_NOT_RIGHT = -2
TOO_MANY_CLAIMED = -2
NO_CARDS = -3
CARD_NOT_THERE = -4
NO_CLAIM = -4
SUIT_NOT_FOLLOWED = -5
NOT_TO_BE_ORDERED = -6
NEVER_ENOUGH = -7
CLAIM_THERE = -8

MOST_TO_ORDER = 4


def hands_are_right(hands):
    """Whether the hands have equally many cards and no card stands twice."""
    cards = []
    for hand in hands:
        if len(hand) != len(hands[0]):
            return False
        cards.extend(hand)
    return len(set(cards)) == len(cards)


def cards_told(cards):
    """How many cards, then they."""
    return [len(cards)] + cards


# Every call takes the same three, so that one table can hold them: the ending, the whole numbers
# and the rows of the call, whether or not it has any.
def deal(ending, numbers, rows):
    if not hands_are_right(rows):
        return [HANDS_NOT_RIGHT]
    hands = tuple([tuple(sorted(row)) for row in rows])
    begin(ending, Deal(hands, numbers[0], numbers[1]))
    return [0]


def turn_and_tricks(ending):
    """The answer of play and back: the seat on turn, and the tricks won."""
    return [0, ending.position.seat, ending.won[0], ending.won[1]]


def play(ending, numbers, rows):
    card = numbers[0]
    position = ending.position
    if ending.claim is not None:
        return [CLAIM_THERE]
    if position.left == 0:
        return [NO_CARDS]
    if card not in hand_of(position, position.seat):
        return [CARD_NOT_THERE]
    if card not in may_play(position):
        return [SUIT_NOT_FOLLOWED]
    put_card(ending, card)
    return turn_and_tricks(ending)


def back(ending, numbers, rows):
    if ending.claim is not None:
        return [CLAIM_THERE]
    if len(ending.played) == 0:
        return [NO_CARDS]
    take_card_back(ending)
    return turn_and_tricks(ending)


def turn(ending, numbers, rows):
    if ending.claim is not None:
        return [CLAIM_THERE]
    return turn_and_tricks(ending) + cards_told(may_play(ending.position))


def judge(ending, numbers, rows):
    judging = Judging(Statement(numbers[0], numbers[1], rows[0]))
    return [0, judged(judging, ending.position)]


def claim(ending, numbers, rows):
    side = numbers[0]
    tricks = numbers[1]
    position = ending.position
    if ending.claim is not None:
        return [CLAIM_THERE]
    if position.left == 0:
        return [NO_CARDS]
    if tricks > tricks_of_rest(position):
        return [TOO_MANY_CLAIMED]
    by_statement = judged(Judging(Statement(side, numbers[2], rows[0])), position)
    for_sure = sure_for(position, side)
    awarded = max(min(tricks, by_statement), for_sure)
    ending.claim = Claim(side, tricks, by_statement, for_sure, awarded)
    return [0, by_statement, for_sure, awarded]


def withdraw(ending, numbers, rows):
    if ending.claim is None:
        return [NO_CLAIM]
    ending.claim = None
    return [0]


def worst(ending, numbers, rows):
    judging = Judging(Statement(numbers[0], numbers[1], rows[0]))
    return [0] + cards_told(worst_play(judging, ending.position))


def sure(ending, numbers, rows):
    side = numbers[0]
    position = ending.position
    return [0, sure_for(position, side), value(Valuing(), position, side)]


def shortest(ending, numbers, rows):
    wording = Wording(ending.position, numbers[0], numbers[2])
    needed = cards_needed(wording, rows[0], numbers[1])
    if needed is None:
        return [NEVER_ENOUGH]
    return [0, needed]


def order(ending, numbers, rows):
    cards = rows[0]
    if len(cards) > MOST_TO_ORDER or len(set(cards)) != len(cards):
        return [NOT_TO_BE_ORDERED]
    wording = Wording(ending.position, numbers[0], numbers[1])
    best = best_order(wording, cards)
    return [0, judged_with_row(wording, best)] + cards_told(best)


def score(ending, numbers, rows):
    there = 0 if ending.claim is None else 1
    return [0] + score_of(ending) + [there]


def account(ending, numbers, rows):
    return [0] + account_of(ending)


def lets(ending, numbers, rows):
    statement = Statement(numbers[0], numbers[1], rows[0])
    return [0] + cards_told(cards_let(statement, ending.position))


def claim_told(made):
    """0 if there's no claim; else 1, and what it is and what came of it."""
    if made is None:
        return [0]
    return [1, made.side, made.tricks, made.judged, made.sure, made.awarded]


def told(ending, numbers, rows):
    position = ending.position
    played = ending.played
    found = [0, position.deal.trump, leader_of(position)]
    for seat in range(SEATS):
        found.extend(cards_told(hand_of(position, seat)))
    # The trick's cards are the last that were played; the winning one alone is in the position.
    found.extend(cards_told(played[len(played) - position.count:]))
    found.extend(cards_told(played))
    return found + claim_told(ending.claim)


# By the numbers of the calls.
ANSWERERS = (
    deal, play, back, turn, judge, claim, withdraw, worst, sure, shortest, order, score, account, lets, told,
)


def answer(ending, call):
    """What is answered to one call: a list of numbers."""
    if not in_range(call):
        return [NOT_IN_RANGE]
    answerer = ANSWERERS[call.number]
    return answerer(ending, call.numbers, call.rows)


def answers(calls):
    """What is answered to all calls, each behind how many numbers it has."""
    ending = Ending()
    answered = []
    place = 0
    while place < len(calls):
        call = call_at(calls, place)
        numbers = answer(ending, call)
        answered.append(len(numbers))
        answered.extend(numbers)
        place = call.end
    return answered
