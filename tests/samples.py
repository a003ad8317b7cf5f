"""Fairs and lodgings that several tests walk, made without the package."""

import itertools
import random


def orderings(count):
    """Every tuple of unlike numbers below count, of any length."""
    found = []
    for length in range(count + 1):
        found.extend(itertools.permutations(range(count), length))
    return found


def small_fairs():
    """Every fair of one or two guests and one or two houses with at most two rooms."""
    for guest_count, house_count in itertools.product((1, 2), repeat=2):
        houses = list(itertools.product((0, 1, 2), orderings(guest_count)))
        for wishes in itertools.product(orderings(house_count), repeat=guest_count):
            for sides in itertools.product(houses, repeat=house_count):
                yield (wishes, sides)


def some_of(chance, count):
    numbers = list(range(count))
    chance.shuffle(numbers)
    return tuple(numbers[: chance.randint(0, count)])


def larger_fairs(how_many):
    """The same fairs each time, of up to five guests and five houses."""
    chance = random.Random(1962)
    for _ in range(how_many):
        guest_count = chance.randint(1, 5)
        house_count = chance.randint(1, 5)
        wishes = tuple(some_of(chance, house_count) for _ in range(guest_count))
        houses = tuple((chance.randint(0, 5), some_of(chance, guest_count)) for _ in range(house_count))
        yield (wishes, houses)


def do_fit(fair, guest, house):
    return house in fair[0][guest] and guest in fair[1][house][1]


def guessed_lodgings(fair):
    """Every tuple with a house or None for each guest, whether it is a lodging or not."""
    return itertools.product((None, *range(len(fair[1]))), repeat=len(fair[0]))


def is_true_lodging(fair, guess):
    for guest, house in enumerate(guess):
        if house is not None and not do_fit(fair, guest, house):
            return False
    return all(sum(had == house for had in guess) <= fair[1][house][0] for house in range(len(fair[1])))


def true_lodgings(fair):
    return [guess for guess in guessed_lodgings(fair) if is_true_lodging(fair, guess)]


def likes_more(fair, guest, one, other):
    """Point 4, word by word, of a guest and two things it may have in a lodging."""
    if one is None:
        return False
    if other is None:
        return True
    wish = fair[0][guest]
    return other in wish[wish.index(one) + 1:]


def true_spoilers(fair, lodging):
    """Point 5, word by word."""
    found = set()
    for guest, house in itertools.product(range(len(fair[0])), range(len(fair[1]))):
        if not do_fit(fair, guest, house) or not likes_more(fair, guest, house, lodging[guest]):
            continue
        rooms, listed = fair[1][house]
        behind = listed[listed.index(guest) + 1:]
        if lodging.count(house) < rooms or any(lodging[other] == house for other in behind):
            found.add((guest, house))
    return sorted(found)


# Things of many kinds, none of them a tuple, a whole number or None.
STRANGE = (True, False, 1.0, "", "0", "abc", b"0", [], [0], {}, {0: 0}, {0}, frozenset(), object(), int, len, ValueError())
