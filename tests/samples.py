"""Fairs and lodgings that several tests walk, made without the package."""

import itertools
import random


def orderings(count):
    """Every tuple of unlike numbers below count, of any length."""
    found = []
    for length in range(count + 1):
        found.extend(itertools.permutations(range(count), length))
    return found


def small_fairs():
    """Every fair of one or two guests and one or two houses with at most two rooms."""
    for guest_count, house_count in itertools.product((1, 2), repeat=2):
        houses = list(itertools.product((0, 1, 2), orderings(guest_count)))
        for wishes in itertools.product(orderings(house_count), repeat=guest_count):
            for sides in itertools.product(houses, repeat=house_count):
                yield (wishes, sides)


def some_of(chance, count):
    numbers = list(range(count))
    chance.shuffle(numbers)
    return tuple(numbers[: chance.randint(0, count)])


def larger_fairs(how_many):
    """The same fairs each time, of up to five guests and five houses."""
    chance = random.Random(1962)
    for _ in range(how_many):
        guest_count = chance.randint(1, 5)
        house_count = chance.randint(1, 5)
        wishes = tuple(some_of(chance, house_count) for _ in range(guest_count))
        houses = tuple((chance.randint(0, 5), some_of(chance, guest_count)) for _ in range(house_count))
        yield (wishes, houses)


def all_of(chance, count):
    numbers = list(range(count))
    chance.shuffle(numbers)
    return tuple(numbers)


def crowded_fairs(how_many):
    """The same fairs each time, with as many rooms as guests, where everybody fits everybody.

    In every other one a house likes best whoever likes it least: these have several steady lodgings.
    """
    chance = random.Random(1974)
    for number in range(how_many):
        rooms = chance.choice(((1, 1, 1), (2, 1), (2, 1, 1), (2, 2, 1), (1, 1, 1, 1), (2, 1, 1, 1), (1, 1, 1, 1, 1)))
        guest_count = sum(rooms)
        wishes = tuple(all_of(chance, len(rooms)) for _ in range(guest_count))
        houses = []
        for house, count in enumerate(rooms):
            listed = all_of(chance, guest_count)
            if number % 2 == 0:
                listed = tuple(sorted(listed, key=lambda guest: -wishes[guest].index(house)))
            houses.append((count, listed))
        yield (wishes, tuple(houses))


def round_fair(count):
    """Guest g wants house g most, then the next ones round; house h wants guest h + 1 most. It has many steady lodgings."""
    wishes = tuple(tuple((guest + step) % count for step in range(count)) for guest in range(count))
    houses = tuple((1, tuple((house + 1 + step) % count for step in range(count))) for house in range(count))
    return (wishes, houses)


def do_fit(fair, guest, house):
    return house in fair[0][guest] and guest in fair[1][house][1]


def guessed_lodgings(fair):
    """Every tuple with a house or None for each guest, whether it is a lodging or not."""
    return itertools.product((None, *range(len(fair[1]))), repeat=len(fair[0]))


def is_true_lodging(fair, guess):
    for guest, house in enumerate(guess):
        if house is not None and not do_fit(fair, guest, house):
            return False
    return all(sum(had == house for had in guess) <= fair[1][house][0] for house in range(len(fair[1])))


def true_lodgings(fair):
    return [guess for guess in guessed_lodgings(fair) if is_true_lodging(fair, guess)]


def likes_more(fair, guest, one, other):
    """Point 4, word by word, of a guest and two things it may have in a lodging."""
    if one is None:
        return False
    if other is None:
        return True
    wish = fair[0][guest]
    return other in wish[wish.index(one) + 1:]


def true_spoilers(fair, lodging):
    """Point 5, word by word."""
    found = set()
    for guest, house in itertools.product(range(len(fair[0])), range(len(fair[1]))):
        if not do_fit(fair, guest, house) or not likes_more(fair, guest, house, lodging[guest]):
            continue
        rooms, listed = fair[1][house]
        behind = listed[listed.index(guest) + 1:]
        if lodging.count(house) < rooms or any(lodging[other] == house for other in behind):
            found.add((guest, house))
    return sorted(found)


def true_steady(fair):
    """Point 7, word by word: the guesses come rising, None ahead of house 0."""
    return [lodging for lodging in true_lodgings(fair) if not true_spoilers(fair, lodging)]


def is_truly_no_worse(fair, one, other):
    """Point 9, word by word."""
    return not any(likes_more(fair, guest, other[guest], one[guest]) for guest in range(len(fair[0])))


def orders(fair):
    return [list(order) for order in itertools.permutations(range(len(fair[0])))]


# Things of many kinds, none of them a tuple, a whole number or None.
STRANGE = (True, False, 1.0, "", "0", "abc", b"0", [], [0], {}, {0: 0}, {0}, frozenset(), object(), int, len, ValueError())


# What is no order of three guests.
BAD_ORDERS = (
    None, 0, 3, *STRANGE, (0, 1, 2), (), "012", {0: 0, 1: 1, 2: 2}, range(3), {0, 1, 2},
    [0, 1], [2, 0], [0, 1, 2, 3], [0, 1, 2, 0], [0, 1, 2, None],
    [0, 1, 1], [0, 0, 0], [2, 2, 1], [0, 1, 3], [1, 2, 3], [-1, 0, 1], [0, 1, -1],
    [False, 1, 2], [0, True, 2], [False, True, 2], [0, 1, 2, True], [0, 1, 2, False],
    [0, 1, None], [0, 1, "2"], ["0", "1", "2"], [0, 1, 2.0], [0, 1, []], [[0, 1, 2]], [0, 1, (2,)], [0, 1, {}],
)
