"""Lodgings in which no guest can be better off but by another's loss, and how to come to them."""

from lodgefair.fairs import checked_order, choices
from lodgefair.lodgings import checked_lodging, has_free_room, rank_for_guest


def no_worse_for(fair, guest, house):
    liked_and_none = choices(fair, guest) + [None]
    return liked_and_none[:rank_for_guest(fair, guest, house) + 1]


def first_lodging(fair, wanted, begun):
    if len(begun) == len(wanted):
        return begun
    for house in wanted[len(begun)]:
        if house is None or has_free_room(fair, begun, house):
            found = first_lodging(fair, wanted, begun + (house,))
            if found is not None:
                return found
    return None


def bettered(fair, lodging):
    checked_lodging(fair, lodging)
    wanted = [no_worse_for(fair, guest, house) for guest, house in enumerate(lodging)]
    # What comes first gives the first guest the best it can have, then the second, and so on;
    # a better one would have come ahead of it.
    return first_lodging(fair, wanted, ())


def better(fair, lodging):
    found = bettered(fair, lodging)
    return None if found == lodging else found


def best_free_house(fair, lodging, guest):
    for house in choices(fair, guest):
        if has_free_room(fair, lodging, house):
            return house
    return None


def picked(fair, order):
    checked_order(fair, order)
    lodging = [None] * len(fair[0])
    for guest in order:
        lodging[guest] = best_free_house(fair, lodging, guest)
    return tuple(lodging)
