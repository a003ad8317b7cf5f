"""Steady lodgings: the best one, the worst one, all of them, and what comes of these."""

from lodgefair.fairs import checked_order, choices, fits, is_number_below
from lodgefair.lodgings import guest_likes_better, guests_in, has_free_room, is_steady, rank_for_guest


def first_guest_asking(order, lodging, not_asked):
    for guest in order:
        if lodging[guest] is None and len(not_asked[guest]) > 0:
            return guest
    return None


def least_liked_guest(fair, lodging, house):
    listed = fair[1][house][1]
    return max(guests_in(lodging, house), key=lambda guest: listed.index(guest))


def lodging_and_asks(fair, order):
    lodging = [None] * len(fair[0])
    not_asked = [choices(fair, guest) for guest in range(len(fair[0]))]
    asks = []
    guest = first_guest_asking(order, lodging, not_asked)
    while guest is not None:
        house = not_asked[guest].pop(0)
        asks.append((guest, house))
        # The guest may be the one that is turned away: a house without rooms keeps nobody.
        no_room_left = not has_free_room(fair, lodging, house)
        lodging[guest] = house
        if no_room_left:
            lodging[least_liked_guest(fair, lodging, house)] = None
        guest = first_guest_asking(order, lodging, not_asked)
    return (tuple(lodging), asks)


def asked(fair, order):
    checked_order(fair, order)
    return lodging_and_asks(fair, order)[1]


def best(fair):
    # Any order will do: the same lodging comes of all.
    return lodging_and_asks(fair, list(range(len(fair[0]))))[0]


def fitting_guests(fair, house):
    return [guest for guest in fair[1][house][1] if fits(fair, guest, house)]


def first_house_asking(fair, lodging, not_asked):
    for house, guests in enumerate(not_asked):
        if len(guests) > 0 and has_free_room(fair, lodging, house):
            return house
    return None


def worst(fair):
    lodging = [None] * len(fair[0])
    not_asked = [fitting_guests(fair, house) for house in range(len(fair[1]))]
    house = first_house_asking(fair, lodging, not_asked)
    while house is not None:
        guest = not_asked[house].pop(0)
        if guest_likes_better(fair, guest, house, lodging[guest]):
            lodging[guest] = house
        house = first_house_asking(fair, lodging, not_asked)
    return tuple(lodging)


def houses_between(fair, guest, top, bottom):
    # Who has no house in the best one has none in any other steady one.
    if top is None:
        return [None]
    liked = choices(fair, guest)
    return sorted(liked[liked.index(top):liked.index(bottom) + 1])


def lodgings_between(fair, high, low):
    begun = [()]
    for guest in range(len(fair[0])):
        longer = []
        for start in begun:
            for house in houses_between(fair, guest, high[guest], low[guest]):
                if house is None or has_free_room(fair, start, house):
                    longer.append(start + (house,))
        begun = longer
    return begun


def all_steady(fair):
    # No steady lodging leaves what lies between the best and the worst one, so only these few are tried;
    # they come rising, for each guest's houses rise.
    return [lodging for lodging in lodgings_between(fair, best(fair), worst(fair)) if is_steady(fair, lodging)]


def best_first(fair, guest, houses):
    return sorted(houses, key=lambda house: rank_for_guest(fair, guest, house))


def at_rank(fair, lodgings, rank):
    found = []
    for guest in range(len(fair[0])):
        houses = [lodging[guest] for lodging in lodgings]
        found.append(best_first(fair, guest, houses)[rank])
    return tuple(found)


def higher(fair, one, other):
    return at_rank(fair, [one, other], 0)


def lower(fair, one, other):
    return at_rank(fair, [one, other], 1)


def middle(fair, rank):
    steady = all_steady(fair)
    if not is_number_below(rank, len(steady)):
        return None
    return at_rank(fair, steady, rank)
