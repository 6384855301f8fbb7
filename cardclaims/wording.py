"""Wording: how many cards of a statement's row are needed, and which order of them is the best."""

from cardclaims.judging import Judging, judged
from cardclaims.position import hand_of
from cardclaims.statement import Statement


class Wording:
    """A position, and a side and a way that are judged there with one row of cards after another."""

    def __init__(self, position, side, way):
        self.position = position
        self.side = side
        self.way = way
        self.known = {}


def own_cards(position, seat, cards):
    """The cards of a row that the seat has, in the row's order, each once."""
    hand = hand_of(position, seat)
    own = []
    for card in cards:
        if card in hand and card not in own:
            own.append(card)
    return tuple(own)


def judged_with_row(wording, cards):
    """What's judged if this is the statement's row."""
    # A seat looks for the first card of its own alone: rows in which each of the claimers' seats
    # finds the same are judged alike, and so just once.
    position = wording.position
    side = wording.side
    row = own_cards(position, side, cards) + own_cards(position, side + 2, cards)
    if row not in wording.known:
        wording.known[row] = judged(Judging(Statement(side, wording.way, list(row))), position)
    return wording.known[row]


def cards_needed(wording, cards, tricks):
    """The least number of the row's first cards with which so many are judged; None if there's none."""
    for size in range(len(cards) + 1):
        if judged_with_row(wording, cards[:size]) >= tricks:
            return size
    return None


def orders_of(cards):
    """All orders of cards, the one with the lower card at the first difference before the other."""
    rising = sorted(cards)
    begun = [[]]
    while len(begun[0]) < len(rising):
        longer = []
        for row in begun:
            longer.extend([row + [card] for card in rising if card not in row])
        begun = longer
    return begun


def best_order(wording, cards):
    """The first order of the cards that's judged the most."""
    # Of several that give the most max takes the first.
    return max(orders_of(cards), key=lambda row: judged_with_row(wording, row))
