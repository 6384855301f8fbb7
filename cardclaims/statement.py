"""Statements: which cards a side's words let a seat play."""

from cardclaims.position import SUIT_SIZE, may_play

ANY_CARD = 0
HIGHEST_OF_SUIT = 1
LOWEST_OF_SUIT = 2


class Statement:
    """The claimers' side, the way they play, and the row of cards that goes before the way."""

    def __init__(self, side, way, cards):
        self.side = side
        self.way = way
        self.cards = cards


def highest_of_suits(cards):
    """Of cards in rising order the highest of each suit, rising."""
    highest = {}
    for card in cards:
        highest[card // SUIT_SIZE] = card
    return list(highest.values())


def lowest_of_suits(cards):
    """Of cards in rising order the lowest of each suit, rising."""
    lowest = {}
    for card in cards:
        lowest.setdefault(card // SUIT_SIZE, card)
    return list(lowest.values())


def let_by_way(way, cards):
    """Of the cards that may be played those that the way lets."""
    if way == HIGHEST_OF_SUIT:
        return highest_of_suits(cards)
    if way == LOWEST_OF_SUIT:
        return lowest_of_suits(cards)
    return cards


def cards_let(statement, position):
    """The cards that the statement lets the seat on turn play, rising."""
    playable = may_play(position)
    if position.seat % 2 != statement.side:
        return playable
    for card in statement.cards:
        if card in playable:
            return [card]
    return let_by_way(statement.way, playable)
