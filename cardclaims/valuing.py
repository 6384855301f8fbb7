"""Valuing: what a side gets if every seat plays as well for its own side as can be."""

from cardclaims.position import key_of, may_play, position_behind, tricks_of_rest, trick_won


class Valuing:
    """The values for side 0 that were found so far, in the play of one deal."""

    def __init__(self):
        self.known = {}


def value(valuing, position, side):
    """The number of tricks of the rest that the side gets by the best play of both."""
    # What one side gets the other doesn't, so that the values for side 0 tell those for side 1.
    for_side_0 = value_for_side_0(valuing, position)
    return for_side_0 if side == 0 else tricks_of_rest(position) - for_side_0


def value_for_side_0(valuing, position):
    """The value for side 0: its own seats play for more of it, the others for less."""
    if position.left == 0:
        return 0
    key = key_of(position)
    if key not in valuing.known:
        tricks = [value_with(valuing, position, card) for card in may_play(position)]
        valuing.known[key] = max(tricks) if position.seat % 2 == 0 else min(tricks)
    return valuing.known[key]


def value_with(valuing, position, card):
    """The value for side 0 if this card is played, with the trick if side 0 wins it by that."""
    behind = position_behind(position, card)
    return trick_won(behind, 0) + value_for_side_0(valuing, behind)
