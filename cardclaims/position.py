"""Deals and positions: who is on turn, what may be played, what a card leads to."""

SUIT_SIZE = 13
SEATS = 4


class Deal:
    """Four hands (tuples of cards, rising), the trump (4: none) and the seat that leads first."""

    def __init__(self, hands, trump, leader):
        self.hands = hands
        self.trump = trump
        self.leader = leader


class Position:
    """A moment in the play of a deal. It is not changed once made, so it can be shared.

    left has the bit 1 << card for each card that is still in a hand: one number tells all four
    hands, as the deal tells whose each card is. Of the trick just what matters for the play to
    come is here: how many cards it has, the suit of the first, the card that wins it so far and
    whose that is.
    """

    def __init__(self, deal, left, seat, count, led, best, winner):
        self.deal = deal
        self.left = left
        self.seat = seat
        self.count = count
        self.led = led
        self.best = best
        self.winner = winner


def between_tricks(deal, left, leader):
    """The position in which the leader is about to begin a trick."""
    return Position(deal, left, leader, 0, 0, 0, leader)


def start(deal):
    """The position as it was dealt."""
    left = 0
    for hand in deal.hands:
        for card in hand:
            left += 1 << card
    return between_tricks(deal, left, deal.leader)


def hand_of(position, seat):
    """The cards that the seat still has, rising."""
    left = position.left
    return [card for card in position.deal.hands[seat] if (left >> card) & 1]


def leader_of(position):
    """The seat that leads to the trick."""
    return (position.seat - position.count) % SEATS


def key_of(position):
    """What tells a position from the others of its deal that can be met."""
    # The winner is left out: within one deal the best card tells whose it is.
    return (position.left, position.seat, position.count, position.led, position.best)


def tricks_of_rest(position):
    """How many tricks aren't whole yet, a begun one counted."""
    # Who has not yet played to a begun trick still has a card for it: the longest hand counts it.
    return max([len(hand_of(position, seat)) for seat in range(SEATS)])


def may_play(position):
    """The cards that the seat on turn may play, rising."""
    hand = hand_of(position, position.seat)
    if position.count == 0:
        return hand
    led = position.led
    following = [card for card in hand if card // SUIT_SIZE == led]
    return following if following else hand


def beats(card, best, trump):
    """Whether the card wins over the one that won the trick so far."""
    suit = card // SUIT_SIZE
    best_suit = best // SUIT_SIZE
    if suit == best_suit:
        return card > best
    return suit == trump


def position_behind(position, card):
    """The position behind this card, played by the seat on turn."""
    deal = position.deal
    left = position.left - (1 << card)
    best = position.best
    winner = position.winner
    if position.count == 0 or beats(card, best, deal.trump):
        best = card
        winner = position.seat
    if position.count == SEATS - 1:
        return between_tricks(deal, left, winner)
    led = card // SUIT_SIZE if position.count == 0 else position.led
    return Position(deal, left, (position.seat + 1) % SEATS, position.count + 1, led, best, winner)


def trick_won(position, side):
    """How many tricks (0 or 1) the card that led to this position made whole for the side."""
    return 1 if position.count == 0 and position.seat % 2 == side else 0
