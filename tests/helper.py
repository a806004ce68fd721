"""What several tests walk over: small wishes, owns, orders, dealings, rings, tables, and points walked plainly."""

import copy
import random
from fractions import Fraction
from itertools import accumulate, permutations, product

from ringtrade.errors import NoOrder
from ringtrade.texts import rows_read

HALF = (1, 2)
NOUGHT = (0, 1)
ONE = (1, 1)

# Lists that are no orders of three hands, each with the place that is told of it.
NO_ORDERS = (
    ([], 0), ([1], 1), ([0, 1], 2), ([3], 0), ([0, 0, 1], 1), ([2, 0, 2], 2), ([0, 1, 3], 2), ([-1, 1, 2], 0),
    ([0, 1, 2, 0], 3), ([0, 1, 2, 3], 3), ([True, 0, 2], 0), ([1, False, 2], 1), ([0, None, 2], 1),
    ([0, 1, "2"], 2), ([10 ** 59, 0, 1], 0), ([0, 1, 2] * 100, 3),
)


def refuses_what_is_no_order(test, deal):
    """Asks deal, which deals to three hands by an order, with each list that is none."""
    for order, at in NO_ORDERS:
        with test.subTest(order):
            before = list(order)
            with test.assertRaises(NoOrder) as caught:
                deal(order)
            test.assertEqual(caught.exception.at, at)
            test.assertEqual(order, before)


def all_wishes(hands, things):
    return list(product(permutations(range(things)), repeat=hands))


def all_owns(hands, things):
    choices = product([None] + list(range(things)), repeat=hands)
    return [owns for owns in choices if no_thing_twice(owns)]


def no_thing_twice(owns):
    owned = [thing for thing in owns if thing is not None]
    return len(owned) == len(set(owned))


def all_orders(hands):
    return [list(order) for order in permutations(range(hands))]


def all_dealings(hands, things):
    return list(permutations(range(things), hands))


def all_owned(hands):
    """The owns in which all is owned, of as many things as hands."""
    return list(permutations(range(hands)))


def all_rings_of_hands(hands):
    """Each tuple of unlike hands, one or more."""
    return [ring for many in range(1, hands + 1) for ring in permutations(range(hands), many)]


def some_square(many, seed, most=7):
    """Wishes, owns in which all is owned, and dealings, the same ones each time."""
    source = random.Random(seed)
    asked = []
    for turn in range(many):
        hands = turn % most + 1
        wishes = tuple(tuple(source.sample(range(hands), hands)) for hand in range(hands))
        asked.append((wishes,) + tuple(tuple(source.sample(range(hands), hands)) for both in range(2)))
    return asked


def some_dealings(many, seed):
    """Wishes and dealings of all sizes that are told, the same ones each time."""
    source = random.Random(seed)
    asked = []
    for wishes, owns, order in some_asked(many, seed):
        asked.append((wishes, tuple(source.sample(range(len(wishes[0])), len(wishes)))))
    return asked


def some_asked(many, seed):
    """Wishes, owns and orders of all sizes that are told, the same ones each time."""
    source = random.Random(seed)
    asked = []
    for turn in range(many):
        hands = turn % 7 + 1
        things = source.randint(hands, 8)
        wishes = tuple(tuple(source.sample(range(things), things)) for hand in range(hands))
        owned = source.sample(range(things), hands)
        owns = tuple(thing if source.randint(0, 3) else None for thing in owned)
        asked.append((wishes, owns, source.sample(range(hands), hands)))
    return asked


def like_no_less(wishes, dealing, other):
    """Whether each hand likes what other gives it no less than what dealing gives it."""
    places = zip(wishes, dealing, other)
    return all(row.index(second) <= row.index(first) for row, first, second in places)


def pointing(wishes, owns, order, hands, things):
    first = [hand for hand in order if hand in hands][0]
    owner = {owns[hand]: hand for hand in hands if owns[hand] is not None}
    steps = {("hand", hand): ("thing", min(things, key=wishes[hand].index)) for hand in hands}
    steps.update({("thing", thing): ("hand", owner.get(thing, first)) for thing in things})
    return steps


def walked_round(steps, start):
    """The places from start on until it comes again, or None where it never does."""
    places = [start]
    while steps[places[-1]] != start:
        places.append(steps[places[-1]])
        if len(places) > len(steps):
            return None
    return places


def plain_rings(steps, hands):
    rings = set()
    for hand in hands:
        places = walked_round(steps, ("hand", hand))
        if places is not None:
            numbers = [number for kind, number in places]
            pairs = list(zip(numbers[0::2], numbers[1::2]))
            turn = pairs.index(min(pairs))
            rings.add(tuple(pairs[turn:] + pairs[:turn]))
    return sorted(rings)


def plain_rounds(wishes, owns, order):
    hands = set(range(len(wishes)))
    things = set(range(len(wishes[0])))
    told = []
    while hands:
        rings = plain_rings(pointing(wishes, owns, order, hands, things), hands)
        told.append(rings)
        for ring in rings:
            hands -= {hand for hand, thing in ring}
            things -= {thing for hand, thing in ring}
    return told


def plain_asked(wishes, owns, order):
    """What is told of point 12, walked word for word."""
    hands = list(order)
    free = set(range(len(wishes[0]))) - set(owns)
    askers = []
    told = []

    def best(hand):
        owned = {owns[other] for other in hands} - {None}
        return min(free | owned, key=wishes[hand].index)

    def leaves(hand, thing):
        hands.remove(hand)
        askers.remove(hand)
        free.discard(thing)

    def let_go(hands_gone, taken):
        free.update({owns[hand] for hand in hands_gone} - {None} - set(taken))

    while hands:
        if not askers:
            askers.append(hands[0])
        last = askers[-1]
        thing = best(last)
        if thing in free or thing == owns[last]:
            leaves(last, thing)
            let_go([last], [thing])
            told.append(("takes", last, thing))
            continue
        owner = [hand for hand in hands if owns[hand] == thing][0]
        if owner not in askers:
            askers.append(owner)
            told.append(("ahead", owner, owns[owner]))
            continue
        members = askers[askers.index(owner):]
        pairs = [(member, owns[members[(k + 1) % len(members)]]) for k, member in enumerate(members)]
        for hand, got in pairs:
            leaves(hand, got)
        turn = pairs.index(min(pairs))
        told.append(("ring", tuple(pairs[turn:] + pairs[:turn])))
    return told


def plain_by_order(wishes, order):
    got = {}
    for hand in order:
        got[hand] = [thing for thing in wishes[hand] if thing not in got.values()][0]
    return tuple(got[hand] for hand in range(len(wishes)))


def better_dealings(wishes, dealing):
    """Each dealing that is better for one and worse for nobody."""
    others = all_dealings(len(wishes), len(wishes[0]))
    return [other for other in others if other != dealing and like_no_less(wishes, dealing, other)]


def pair_of(worth):
    """A fraction as the program tells it."""
    return (worth.numerator, worth.denominator)


def plain_table(rows):
    return tuple(tuple(pair_of(Fraction(worth)) for worth in row) for row in rows)


def worths(shares):
    return [Fraction(top, bottom) for top, bottom in shares]


def plain_sums(row, shares):
    return list(accumulate(worths(shares)[thing] for thing in row))


def plain_no_less(row, shares, others):
    return all(one >= other for one, other in zip(plain_sums(row, shares), plain_sums(row, others)))


def all_tables(hands, parts):
    """Each table of shares of which all shares are so many parts of one."""
    rows = [row for row in product(range(parts + 1), repeat=hands) if sum(row) == parts]
    squares = [square for square in product(rows, repeat=hands) if all(sum(column) == parts for column in zip(*square))]
    return [plain_table([[Fraction(part, parts) for part in row] for row in square]) for square in squares]


def some_tables(many, seed, most=7, dealt=4):
    """Wishes and tables of shares, mixed of at most so many dealings as dealt, the same ones each time."""
    source = random.Random(seed)
    asked = []
    for wishes, owns, dealing in some_square(many, seed, most):
        hands = len(wishes)
        dealings = [source.sample(range(hands), hands) for turn in range(source.randint(1, dealt))]
        weights = [source.randint(1, 6) for mixed in dealings]
        parts = [Fraction(weight, sum(weights)) for weight in weights]
        asked.append((wishes, plain_mixed(list(zip(parts, dealings)))))
    return asked


def plain_mixed(parts):
    """The table of parts (worth, dealing), of as many things as hands."""
    many = len(parts[0][1])
    rows = [[0] * many for hand in range(many)]
    for worth, dealing in parts:
        for hand, thing in enumerate(dealing):
            rows[hand][thing] += worth
    return plain_table(rows)


def some_with_like_rows(many, seed, most=7):
    """Square wishes in which few rows stand, so that some hands have like ones, the same ones each time."""
    source = random.Random(seed)
    asked = []
    for turn in range(many):
        hands = turn % most + 1
        rows = [tuple(source.sample(range(hands), hands)) for both in range(2)]
        asked.append(tuple(source.choice(rows) for hand in range(hands)))
    return asked


def has_like_shares_for_like_rows(wishes, table):
    places = list(zip(wishes, table))
    return all(shares == others for row, shares in places for other, others in places if row == other)


def rings_of_owns(owns):
    """Each ring that begins with its least hand, in which each gets what the next one owns."""
    rings = []
    for hands in all_rings_of_hands(len(owns)):
        if hands[0] == min(hands):
            behind = hands[1:] + hands[:1]
            rings.append(tuple((hand, owns[other]) for hand, other in zip(hands, behind)))
    return rings


def plain_goes(wishes, owns, dealing, ring):
    """Point 14 word for word: one of the rings there are, none worse, one better."""
    if ring not in rings_of_owns(owns):
        return False
    steps = [wishes[hand].index(dealing[hand]) - wishes[hand].index(thing) for hand, thing in ring]
    return min(steps) >= 0 and max(steps) > 0


def all_ways(wishes, dealing):
    """Each ring and each line that point 15 tells."""
    left_over = [thing for thing in range(len(wishes[0])) if thing not in dealing]
    ways = []
    for hands in all_rings_of_hands(len(wishes)):
        aims = [dealing[hand] for hand in hands]
        if len(hands) > 1 and all_like_better(wishes, dealing, hands, aims[1:] + aims[:1]):
            ways.append(("ring", hands))
        for thing in left_over:
            if all_like_better(wishes, dealing, hands, aims[1:] + [thing]):
                ways.append(("line", hands, thing))
    return ways


def all_like_better(wishes, dealing, hands, things):
    pairs = zip(hands, things)
    return all(wishes[hand].index(thing) < wishes[hand].index(dealing[hand]) for hand, thing in pairs)


def wishes_in(text):
    return rows_read(text)[0]


def sure_table(dealing):
    return tuple(tuple(ONE if got == thing else NOUGHT for thing in range(len(dealing))) for got in dealing)


def like_shares(hands):
    return (((1, hands),) * hands,) * hands


def rises(wishes, table):
    """Pairs of things (lower, higher) of which point 23 asks that the second one's height is greater."""
    things = range(len(wishes))
    told = set()
    for hand, (row, shares) in enumerate(zip(wishes, table)):
        for lower, higher in product(things, repeat=2):
            if shares[lower][0] > 0 and row.index(higher) < row.index(lower):
                told.add((lower, higher))
    return told


def are_heights(wishes, table, told):
    return all(told[higher] > told[lower] for lower, higher in rises(wishes, table))


def is_share_ring(wishes, table, ring):
    """Point 24 word for word."""
    things = [thing for hand, thing in ring]
    if len(ring) < 2 or len(set(things)) != len(things):
        return False
    for (hand, thing), aim in zip(ring, things[1:] + things[:1]):
        row = wishes[hand]
        if not Fraction(*table[hand][thing]) > 0 or not row.index(aim) < row.index(thing):
            return False
    return True


def all_share_rings(wishes, table):
    hands = range(len(wishes))
    rings = []
    for many in range(2, len(wishes) + 1):
        for things, in_it in product(permutations(hands, many), product(hands, repeat=many)):
            ring = tuple(zip(in_it, things))
            if is_share_ring(wishes, table, ring):
                rings.append(ring)
    return rings


def stays_and_is_told_again(test, ask, *asked):
    """Asks twice with the same things: the answers are equal, and the things stay as they were."""
    before = copies(asked)
    first = copies(ask(*asked))
    test.assertEqual(ask(*asked), first)
    test.assertEqual(asked, before)


def copies(thing):
    return copy.deepcopy(thing)
