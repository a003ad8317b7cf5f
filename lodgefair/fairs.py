"""Fairs: what guests and houses say of each other, and who fits whom."""

from lodgefair.errors import BadFair, BadOrder

MOST_ON_A_SIDE = 5
MOST_ROOMS = 5


def is_number_below(thing, end):
    # To Python True and False are whole numbers; to a fair they are none.
    return isinstance(thing, int) and not isinstance(thing, bool) and 0 <= thing < end


def are_unlike_numbers_below(things, end):
    if not isinstance(things, tuple):
        return False
    for place, thing in enumerate(things):
        if not is_number_below(thing, end) or thing in things[:place]:
            return False
    return True


def has_each_number_below(things, end):
    return are_unlike_numbers_below(things, end) and len(things) == end


def is_side(side):
    return isinstance(side, tuple) and 1 <= len(side) <= MOST_ON_A_SIDE


def has_two_sides(fair):
    return isinstance(fair, tuple) and len(fair) == 2 and is_side(fair[0]) and is_side(fair[1])


def is_house(thing, guest_count):
    if not isinstance(thing, tuple) or len(thing) != 2:
        return False
    return is_number_below(thing[0], MOST_ROOMS + 1) and are_unlike_numbers_below(thing[1], guest_count)


def checked(fair):
    if not has_two_sides(fair):
        raise BadFair(None)
    wishes = fair[0]
    houses = fair[1]
    for guest, wish in enumerate(wishes):
        if not are_unlike_numbers_below(wish, len(houses)):
            raise BadFair(("guest", guest))
    for house, thing in enumerate(houses):
        if not is_house(thing, len(wishes)):
            raise BadFair(("house", house))
    return fair


def fits(fair, guest, house):
    wishes = fair[0]
    houses = fair[1]
    # Who is not there fits nobody; a negative number must not count from the end.
    if not is_number_below(guest, len(wishes)) or not is_number_below(house, len(houses)):
        return False
    return house in wishes[guest] and guest in houses[house][1]


def choices(fair, guest):
    wishes = fair[0]
    if not is_number_below(guest, len(wishes)):
        return []
    return [house for house in wishes[guest] if fits(fair, guest, house)]


def checked_order(fair, order):
    wishes = fair[0]
    if not isinstance(order, list) or not has_each_number_below(tuple(order), len(wishes)):
        raise BadOrder("no list of all guests, each once")
    return order
