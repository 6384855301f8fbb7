"""For the tests: calls written as functions, and a plain model that the program is held against."""

from cardclaims.desk import answers

FAR = 1000000000000000000
OUT_OF_RANGE = (-FAR, -FAR + 1, -1, FAR - 1, FAR)


def row(cards):
    return [len(cards)] + list(cards)


def deal(trump, leader, *hands):
    call = [0, trump, leader]
    for hand in hands:
        call += row(hand)
    return call


def play(card):
    return [1, card]


def back():
    return [2]


def turn():
    return [3]


def judge(side, way, cards=()):
    return [4, side, way] + row(cards)


def claim(side, k, way, cards=()):
    return [5, side, k, way] + row(cards)


def withdraw():
    return [6]


def worst(side, way, cards=()):
    return [7, side, way] + row(cards)


def plays(*cards):
    """The calls that play these cards, one behind another, to be given to ask with a star."""
    return [play(card) for card in cards]


def split(numbers):
    """The answers, one list each, out of the one list that is given back."""
    found = []
    place = 0
    while place < len(numbers):
        end = place + 1 + numbers[place]
        found.append(numbers[place + 1:end])
        place = end
    assert place == len(numbers), numbers
    return found


def ask(*calls):
    """What is answered to each of these calls on a new object."""
    return split(answers([number for call in calls for number in call]))


def last(*calls):
    return ask(*calls)[-1]


class PlainPosition:
    """A position as the document tells it, with nothing clever."""

    def __init__(self, hands, trump, leader, trick=()):
        self.hands = [frozenset(hand) for hand in hands]
        self.trump = trump
        self.leader = leader
        self.trick = tuple(trick)

    def on_turn(self):
        return (self.leader + len(self.trick)) % 4

    def empty(self):
        return not any(self.hands)

    def rest(self):
        return (sum(len(hand) for hand in self.hands) + len(self.trick)) // 4

    def may_play(self):
        hand = self.hands[self.on_turn()]
        if self.trick:
            same = {card for card in hand if card // 13 == self.trick[0] // 13}
            if same:
                return sorted(same)
        return sorted(hand)

    def behind(self, card):
        """The position behind the card, and the seat that won the trick (None if it isn't whole)."""
        hands = list(self.hands)
        hands[self.on_turn()] = hands[self.on_turn()] - {card}
        trick = self.trick + (card,)
        if len(trick) < 4:
            return PlainPosition(hands, self.trump, self.leader, trick), None
        trumps = [c for c in trick if c // 13 == self.trump]
        following = [c for c in trick if c // 13 == trick[0] // 13]
        winner = (self.leader + trick.index(max(trumps or following))) % 4
        return PlainPosition(hands, self.trump, winner), winner

    def lets(self, side, way, cards):
        may = self.may_play()
        if self.on_turn() % 2 != side:
            return may
        for card in cards:
            if card in may:
                return [card]
        pick = {0: None, 1: max, 2: min}[way]
        if pick is None:
            return may
        return [c for c in may if c == pick(d for d in may if d // 13 == c // 13)]

    def all_plays(self, side, way, cards):
        """Each play to the end that the statement lets: the claimers' tricks, then the cards."""
        if self.empty():
            yield 0, ()
            return
        for card in self.lets(side, way, cards):
            behind, winner = self.behind(card)
            won = int(winner is not None and winner % 2 == side)
            for tricks, later in behind.all_plays(side, way, cards):
                yield won + tricks, (card,) + later

    def judged(self, side, way, cards):
        return min(tricks for tricks, played in self.all_plays(side, way, cards))

    def worst(self, side, way, cards):
        # Keeping to what's judged by the lowest card each time is the first play, card by card,
        # of those that give the least.
        return list(min(self.all_plays(side, way, cards))[1])


def in_range(number, numbers, rows):
    tops = {0: (4, 3), 1: (51,), 4: (1, 2), 5: (1, 4, 2), 7: (1, 2)}.get(number, ())
    longest = 4 if number == 0 else 16
    return (
        all(0 <= n <= top for n, top in zip(numbers, tops, strict=True))
        and all(len(cards) <= longest for cards in rows)
        and all(0 <= card <= 51 for cards in rows for card in cards)
    )


class PlainDesk:
    """Calls 0 to 7 by the document's words; each moment of the play is kept for back."""

    def __init__(self):
        self.past = []
        self.now = (PlainPosition(((), (), (), ()), 4, 0), (0, 0))
        self.claim = None

    def answer(self, call):
        number = call[0]
        size = {0: 2, 1: 1, 4: 2, 5: 3, 7: 2}.get(number, 0)
        numbers = call[1:1 + size]
        rows = split(call[1 + size:])
        if not in_range(number, numbers, rows):
            return [-1]
        method = (self.deal, self.play, self.back, self.turn, self.judge, self.make, self.withdraw, self.worst)
        return method[number](*numbers, *rows)

    def seen(self):
        return [0, self.now[0].on_turn(), *self.now[1]]

    def deal(self, trump, leader, *hands):
        cards = [card for hand in hands for card in hand]
        if len({len(hand) for hand in hands}) > 1 or len(set(cards)) < len(cards):
            return [-2]
        self.past = []
        self.now = (PlainPosition(hands, trump, leader), (0, 0))
        self.claim = None
        return [0]

    def play(self, card):
        position, won = self.now
        if self.claim:
            return [-8]
        if position.empty():
            return [-3]
        if card not in position.hands[position.on_turn()]:
            return [-4]
        if card not in position.may_play():
            return [-5]
        self.past.append(self.now)
        position, winner = position.behind(card)
        if winner is not None:
            won = (won[0] + (winner in (0, 2)), won[1] + (winner in (1, 3)))
        self.now = (position, won)
        return self.seen()

    def back(self):
        if self.claim:
            return [-8]
        if not self.past:
            return [-3]
        self.now = self.past.pop()
        return self.seen()

    def turn(self):
        if self.claim:
            return [-8]
        return self.seen() + row(self.now[0].may_play() if not self.now[0].empty() else [])

    def judge(self, side, way, cards):
        return [0, self.now[0].judged(side, way, cards)]

    def make(self, side, k, way, cards):
        position = self.now[0]
        if self.claim:
            return [-8]
        if position.empty():
            return [-3]
        if k > position.rest():
            return [-2]
        self.claim = True
        judged = position.judged(side, way, cards)
        sure = position.judged(side, 0, [])
        awarded = k if k < judged else judged
        return [0, judged, sure, awarded if awarded > sure else sure]

    def withdraw(self):
        if not self.claim:
            return [-4]
        self.claim = None
        return [0]

    def worst(self, side, way, cards):
        return [0] + row(self.now[0].worst(side, way, cards))
