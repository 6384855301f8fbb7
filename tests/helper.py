"""For the tests: calls written as functions, and a plain model that the program is held against."""

import itertools

from cardclaims.desk import answers

FAR = 1000000000000000000
OUT_OF_RANGE = (-FAR, -FAR + 1, -1, FAR - 1, FAR)
# The greatest that each whole number of a call may be, and the calls of which a line has at most 6.
TOPS = {0: (4, 3), 1: (51,), 4: (1, 2), 5: (1, 4, 2), 7: (1, 2), 8: (1,), 9: (1, 4, 2), 10: (1, 2), 13: (1, 2)}
AT_MOST_SIX = (4, 5, 7, 8, 9, 10, 12)


def row(cards):
    return [len(cards)] + list(cards)


def deal(trump, leader, *hands):
    call = [0, trump, leader]
    for hand in hands:
        call += row(hand)
    return call


def play(card):
    return [1, card]


def back():
    return [2]


def turn():
    return [3]


def judge(side, way, cards=()):
    return [4, side, way] + row(cards)


def claim(side, k, way, cards=()):
    return [5, side, k, way] + row(cards)


def withdraw():
    return [6]


def worst(side, way, cards=()):
    return [7, side, way] + row(cards)


def sure(side):
    return [8, side]


def shortest(side, k, way, cards=()):
    return [9, side, k, way] + row(cards)


def order(side, way, cards=()):
    return [10, side, way] + row(cards)


def score():
    return [11]


def account():
    return [12]


def lets(side, way, cards=()):
    return [13, side, way] + row(cards)


def told():
    return [14]


def plays(*cards):
    """The calls that play these cards, one behind another, to be given to ask with a star."""
    return [play(card) for card in cards]


def split(numbers):
    """The answers, one list each, out of the one list that is given back."""
    found = []
    place = 0
    while place < len(numbers):
        end = place + 1 + numbers[place]
        found.append(numbers[place + 1:end])
        place = end
    assert place == len(numbers), numbers
    return found


def ask(*calls):
    """What is answered to each of these calls on a new object."""
    return split(answers([number for call in calls for number in call]))


def last(*calls):
    return ask(*calls)[-1]


def hold_refusal(case, begun, call, code):
    """The call is refused, and all is as it was, without a claim and with one."""
    got = ask(*begun, told(), call, told(), claim(0, 1, 1), told(), call, told(), withdraw(), told())[len(begun):]
    case.assertEqual([got[1], got[5]], [[code], [code]], call)
    case.assertEqual([got[2], got[8]], [got[0], got[0]], call)
    case.assertEqual(got[6], got[4], call)


def some_hands(source, size, top):
    """Hands of so many cards each, out of those below top: the fewer, the more often they meet."""
    picked = source.sample(range(top), 4 * size)
    return [picked[seat * size:(seat + 1) * size] for seat in range(4)]


class PlainPosition:
    """A position as the document tells it, with nothing clever."""

    def __init__(self, hands, trump, leader, trick=()):
        self.hands = [frozenset(hand) for hand in hands]
        self.trump = trump
        self.leader = leader
        self.trick = tuple(trick)

    def on_turn(self):
        return (self.leader + len(self.trick)) % 4

    def empty(self):
        return not any(self.hands)

    def rest(self):
        return (sum(len(hand) for hand in self.hands) + len(self.trick)) // 4

    def may_play(self):
        hand = self.hands[self.on_turn()]
        if self.trick:
            same = {card for card in hand if card // 13 == self.trick[0] // 13}
            if same:
                return sorted(same)
        return sorted(hand)

    def behind(self, card):
        """The position behind the card, and the seat that won the trick (None if it isn't whole)."""
        hands = list(self.hands)
        hands[self.on_turn()] = hands[self.on_turn()] - {card}
        trick = self.trick + (card,)
        if len(trick) < 4:
            return PlainPosition(hands, self.trump, self.leader, trick), None
        trumps = [c for c in trick if c // 13 == self.trump]
        following = [c for c in trick if c // 13 == trick[0] // 13]
        winner = (self.leader + trick.index(max(trumps or following))) % 4
        return PlainPosition(hands, self.trump, winner), winner

    def lets(self, side, way, cards):
        may = self.may_play()
        if self.on_turn() % 2 != side:
            return may
        for card in cards:
            if card in may:
                return [card]
        pick = {0: None, 1: max, 2: min}[way]
        if pick is None:
            return may
        return [c for c in may if c == pick(d for d in may if d // 13 == c // 13)]

    def all_plays(self, side, way, cards):
        """Each play to the end that the statement lets: the claimers' tricks, then the cards."""
        if self.empty():
            yield 0, ()
            return
        for card in self.lets(side, way, cards):
            behind, winner = self.behind(card)
            won = int(winner is not None and winner % 2 == side)
            for tricks, later in behind.all_plays(side, way, cards):
                yield won + tricks, (card,) + later

    def judged(self, side, way, cards, known):
        """The least of all_plays; known keeps what was found, for hands of four cards."""
        if self.empty():
            return 0
        key = (self.key(), side, way, tuple(cards))
        if key not in known:
            found = []
            for card in self.lets(side, way, cards):
                behind, winner = self.behind(card)
                won = int(winner is not None and winner % 2 == side)
                found.append(won + behind.judged(side, way, cards, known))
            known[key] = min(found)
        return known[key]

    def worst(self, side, way, cards, known):
        position = self
        played = []
        while not position.empty():
            for card in position.lets(side, way, cards):
                behind, winner = position.behind(card)
                won = int(winner is not None and winner % 2 == side)
                if won + behind.judged(side, way, cards, known) == position.judged(side, way, cards, known):
                    break
            played.append(card)
            position = behind
        return played

    def key(self):
        return (tuple(self.hands), self.trump, self.leader, self.trick)

    def value(self, side, known=None):
        """What the side gets by the best play of both; without known through each play anew."""
        if self.empty():
            return 0
        key = (self.key(), side)
        if known is not None and key in known:
            return known[key]
        found = []
        for card in self.may_play():
            behind, winner = self.behind(card)
            found.append(int(winner is not None and winner % 2 == side) + behind.value(side, known))
        best = max(found) if self.on_turn() % 2 == side else min(found)
        if known is not None:
            known[key] = best
        return best


def in_range(number, numbers, rows):
    longest = 4 if number == 0 else 16
    return (
        all(0 <= n <= top for n, top in zip(numbers, TOPS.get(number, ()), strict=True))
        and all(len(cards) <= longest for cards in rows)
        and all(0 <= card <= 51 for cards in rows for card in cards)
    )


class PlainDesk:
    """The calls by the document's words; each moment of the play is kept for back."""

    def __init__(self):
        self.past = []
        self.played = []
        self.now = (PlainPosition(((), (), (), ()), 4, 0), (0, 0))
        self.claim = None
        self.known = {}

    def answer(self, call):
        number = call[0]
        size = len(TOPS.get(number, ()))
        numbers = call[1:1 + size]
        rows = split(call[1 + size:])
        if not in_range(number, numbers, rows):
            return [-1]
        method = (self.deal, self.play, self.back, self.turn, self.judge, self.make, self.withdraw, self.worst,
                  self.sure, self.shortest, self.order, self.score, self.account, self.lets, self.told)
        return method[number](*numbers, *rows)

    def judged(self, side, way, cards):
        return self.now[0].judged(side, way, cards, self.known)

    def seen(self):
        return [0, self.now[0].on_turn(), *self.now[1]]

    def deal(self, trump, leader, *hands):
        cards = [card for hand in hands for card in hand]
        if len({len(hand) for hand in hands}) > 1 or len(set(cards)) < len(cards):
            return [-2]
        self.past = []
        self.played = []
        self.now = (PlainPosition(hands, trump, leader), (0, 0))
        self.claim = None
        return [0]

    def play(self, card):
        position, won = self.now
        if self.claim:
            return [-8]
        if position.empty():
            return [-3]
        if card not in position.hands[position.on_turn()]:
            return [-4]
        if card not in position.may_play():
            return [-5]
        self.past.append(self.now)
        self.played.append(card)
        position, winner = position.behind(card)
        if winner is not None:
            won = (won[0] + (winner in (0, 2)), won[1] + (winner in (1, 3)))
        self.now = (position, won)
        return self.seen()

    def back(self):
        if self.claim:
            return [-8]
        if not self.past:
            return [-3]
        self.now = self.past.pop()
        self.played.pop()
        return self.seen()

    def turn(self):
        if self.claim:
            return [-8]
        return self.seen() + row(self.now[0].may_play() if not self.now[0].empty() else [])

    def judge(self, side, way, cards):
        return [0, self.judged(side, way, cards)]

    def make(self, side, k, way, cards):
        position = self.now[0]
        if self.claim:
            return [-8]
        if position.empty():
            return [-3]
        if k > position.rest():
            return [-2]
        judged = self.judged(side, way, cards)
        sure = self.judged(side, 0, [])
        awarded = k if k < judged else judged
        awarded = awarded if awarded > sure else sure
        self.claim = (side, k, judged, sure, awarded)
        return [0, judged, sure, awarded]

    def withdraw(self):
        if not self.claim:
            return [-4]
        self.claim = None
        return [0]

    def worst(self, side, way, cards):
        return [0] + row(self.now[0].worst(side, way, cards, self.known))

    def sure(self, side):
        return [0, self.judged(side, 0, []), self.now[0].value(side, self.known)]

    def shortest(self, side, k, way, cards):
        enough = [n for n in range(len(cards) + 1) if self.judged(side, way, cards[:n]) >= k]
        return [0, min(enough)] if enough else [-7]

    def order(self, side, way, cards):
        if len(cards) > 4 or len(set(cards)) < len(cards):
            return [-6]
        most, found = min((-self.judged(side, way, one), one) for one in itertools.permutations(cards))
        return [0, -most] + row(found)

    def score(self):
        tricks = list(self.now[1])
        if self.claim:
            side, awarded = self.claim[0], self.claim[4]
            tricks[side] += awarded
            tricks[1 - side] += self.now[0].rest() - awarded
        return [0, *tricks, int(self.claim is not None)]

    def account(self):
        moments = self.past + [self.now]
        gifts = [0, 0]
        for (before, won_before), (behind, won_behind) in zip(moments, moments[1:]):
            side = before.on_turn() % 2
            gifts[side] += before.value(side, self.known) - behind.value(side, self.known)
            gifts[side] -= won_behind[side] - won_before[side]
        now = self.now[0]
        claimed = [0, 0]
        if self.claim:
            claimed = [self.claim[0], now.value(self.claim[0], self.known) - self.claim[4]]
        still = 0 if self.claim else now.value(0, self.known)
        return [0, moments[0][0].value(0, self.known), *gifts, *claimed, self.score()[1], still]

    def lets(self, side, way, cards):
        return [0] + row(self.now[0].lets(side, way, cards))

    def told(self):
        position = self.now[0]
        found = [0, position.trump, position.leader]
        for hand in position.hands:
            found += row(sorted(hand))
        found += row(position.trick) + row(self.played)
        return found + ([1, *self.claim] if self.claim else [0])
