"""The ending that is held: a deal, what was played of it, and perhaps a claim."""

from cardclaims.position import Deal, position_behind, start, trick_won

NO_TRUMP = 4


class Claim:
    """A claim of so many tricks of the rest by a side, and what came of it."""

    def __init__(self, side, tricks, judged, sure, awarded):
        self.side = side
        self.tricks = tricks
        self.judged = judged
        self.sure = sure
        self.awarded = awarded


class Ending:
    """The deal, the cards played since, the position now, the tricks won by each side, the claim."""

    def __init__(self):
        begin(self, Deal(((), (), (), ()), NO_TRUMP, 0))


def begin(ending, deal):
    """The ending is this deal now, with nothing played."""
    ending.dealt = deal
    ending.played = []
    ending.position = start(deal)
    ending.won = (0, 0)
    ending.claim = None


def put_card(ending, card):
    """The seat on turn plays a card that it may play."""
    ending.played.append(card)
    ending.position = position_behind(ending.position, card)
    ending.won = (
        ending.won[0] + trick_won(ending.position, 0),
        ending.won[1] + trick_won(ending.position, 1),
    )


def take_card_back(ending):
    """All is as it was before the last card that was played."""
    kept = ending.played[:-1]
    begin(ending, ending.dealt)
    for card in kept:
        put_card(ending, card)
