"""Lodgings: which guest has which house, and who could spoil that."""

from lodgefair.errors import BadLodging
from lodgefair.fairs import choices, fits


def is_lodging(fair, thing):
    wishes = fair[0]
    houses = fair[1]
    if not isinstance(thing, tuple) or len(thing) != len(wishes):
        return False
    for guest, house in enumerate(thing):
        if house is not None and not fits(fair, guest, house):
            return False
    # Counting comes last: only now is it sure that no True passes for house 1.
    for house, offer in enumerate(houses):
        if thing.count(house) > offer[0]:
            return False
    return True


def checked_lodging(fair, lodging):
    if not is_lodging(fair, lodging):
        raise BadLodging("no lodging of this fair")
    return lodging


def rank_for_guest(fair, guest, house):
    liked = choices(fair, guest)
    if house in liked:
        return liked.index(house)
    # None stands behind every house that fits, and so does what counts for nothing.
    return len(liked)


def guest_likes_better(fair, guest, one, other):
    return rank_for_guest(fair, guest, one) < rank_for_guest(fair, guest, other)


def house_likes_better(fair, house, one, other):
    listed = fair[1][house][1]
    return listed.index(one) < listed.index(other)


def guests_in(lodging, house):
    return [guest for guest, had in enumerate(lodging) if had == house]


def has_free_room(fair, lodging, house):
    rooms = fair[1][house][0]
    return lodging.count(house) < rooms


def would_take_in(fair, lodging, house, guest):
    if has_free_room(fair, lodging, house):
        return True
    return any([house_likes_better(fair, house, guest, other) for other in guests_in(lodging, house)])


def is_spoiler(fair, lodging, guest, house):
    # A house that does not fit is never liked better, so the two need not be asked whether they fit.
    return guest_likes_better(fair, guest, house, lodging[guest]) and would_take_in(fair, lodging, house, guest)


def spoilers(fair, lodging):
    checked_lodging(fair, lodging)
    found = []
    for guest in range(len(fair[0])):
        for house in range(len(fair[1])):
            if is_spoiler(fair, lodging, guest, house):
                found.append((guest, house))
    return found


def is_steady(fair, lodging):
    return len(spoilers(fair, lodging)) == 0


def no_worse(fair, one, other):
    for guest in range(len(fair[0])):
        if guest_likes_better(fair, guest, other[guest], one[guest]):
            return False
    return True
