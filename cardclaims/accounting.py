"""Accounting: the score of an ending, and what its cards and its claim gave away."""

from cardclaims.position import position_behind, start, trick_won, tricks_of_rest
from cardclaims.valuing import Valuing, value


def score_of(ending):
    """The tricks of side 0 and of side 1, with those of the rest if there's a claim."""
    score = [ending.won[0], ending.won[1]]
    claim = ending.claim
    if claim is not None:
        score[claim.side] += claim.awarded
        score[1 - claim.side] += tricks_of_rest(ending.position) - claim.awarded
    return score


def gifts_of_cards(valuing, ending):
    """What the cards of side 0 and those of side 1 that were played gave away."""
    gifts = [0, 0]
    position = start(ending.dealt)
    for card in ending.played:
        side = position.seat % 2
        behind = position_behind(position, card)
        kept = trick_won(behind, side) + value(valuing, behind, side)
        gifts[side] += value(valuing, position, side) - kept
        position = behind
    return gifts


def account_of_claim(valuing, ending):
    """The claim's side, and by how much what was awarded is less than the value for it."""
    claim = ending.claim
    if claim is None:
        return [0, 0]
    return [claim.side, value(valuing, ending.position, claim.side) - claim.awarded]


def value_still_open(valuing, ending):
    """What side 0 still gets by the best play of both: nothing if a claim ended the play."""
    if ending.claim is not None:
        return 0
    return value(valuing, ending.position, 0)


def account_of(ending):
    """The seven numbers of the account."""
    # One for all of them: the positions of one deal lead to one another.
    valuing = Valuing()
    dealt = value(valuing, start(ending.dealt), 0)
    gifts = gifts_of_cards(valuing, ending)
    by_claim = account_of_claim(valuing, ending)
    return [dealt] + gifts + by_claim + [score_of(ending)[0], value_still_open(valuing, ending)]
