"""Judging: the least that a side gets in all plays that its statement lets."""

from cardclaims.position import key_of, position_behind, trick_won
from cardclaims.statement import ANY_CARD, Statement, cards_let


class Judging:
    """A statement and what was judged of it so far, in the play of one deal."""

    def __init__(self, statement):
        self.statement = statement
        self.known = {}


def judged(judging, position):
    """The least number of tricks of the rest that the claimers get."""
    if position.left == 0:
        return 0
    key = key_of(position)
    if key in judging.known:
        return judging.known[key]
    least = None
    for card in cards_let(judging.statement, position):
        tricks = judged_with(judging, position, card)
        if least is None or tricks < least:
            least = tricks
        # No play gives less than nothing: the other cards needn't be tried.
        if least == 0:
            break
    judging.known[key] = least
    return least


def judged_with(judging, position, card):
    """What's judged if this card is played, with the trick if the claimers win it by that."""
    behind = position_behind(position, card)
    return trick_won(behind, judging.statement.side) + judged(judging, behind)


def sure_for(position, side):
    """What no play at all could lose for the side."""
    return judged(Judging(Statement(side, ANY_CARD, [])), position)


def worst_play(judging, position):
    """The cards of a play to the end that gives the claimers just what's judged."""
    cards = []
    while position.left != 0:
        card = worst_card(judging, position)
        cards.append(card)
        position = position_behind(position, card)
    return cards


def worst_card(judging, position):
    """The lowest card that's let and behind which what's judged is what's judged before it."""
    # Of several that give the least min takes the first: the lowest, as they come rising.
    return min(cards_let(judging.statement, position), key=lambda card: judged_with(judging, position, card))
