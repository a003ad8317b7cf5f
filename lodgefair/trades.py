"""Trades: owners share out their houses until no few of them could do better by themselves."""

from lodgefair.errors import BadLodging, BadMarket
from lodgefair.fairs import has_each_number_below

MOST_OWNERS = 5


def is_market(thing):
    if not isinstance(thing, tuple) or not 1 <= len(thing) <= MOST_OWNERS:
        return False
    return all([has_each_number_below(wish, len(thing)) for wish in thing])


def checked_market(market):
    if not is_market(market):
        raise BadMarket("no market")
    return market


def checked_deal(market, deal):
    if not has_each_number_below(deal, len(market)):
        raise BadLodging("no deal of this market")
    return deal


def liked_best(market, left, owner):
    return [house for house in market[owner] if house in left][0]


def stands_in_a_ring(pointed, owner):
    passed = []
    reached = pointed[owner]
    while reached not in passed:
        passed.append(reached)
        reached = pointed[reached]
    return owner in passed


def pairs_by_round(market):
    left = list(range(len(market)))
    found = []
    while len(left) > 0:
        pointed = {}
        for owner in left:
            pointed[owner] = liked_best(market, left, owner)
        found.append([(owner, pointed[owner]) for owner in left if stands_in_a_ring(pointed, owner)])
        gone = [owner for owner, house in found[-1]]
        left = [owner for owner in left if owner not in gone]
    return found


def fair_deal(market):
    checked_market(market)
    deal = [None] * len(market)
    for pairs in pairs_by_round(market):
        for owner, house in pairs:
            deal[owner] = house
    return tuple(deal)


def breakers(market, deal):
    checked_market(market)
    checked_deal(market, deal)
    for pairs in pairs_by_round(market):
        # Up to here the deal is as the rounds were, so these owners can have in it
        # nothing better than what they get of each other.
        if any([deal[owner] != house for owner, house in pairs]):
            return (tuple([owner for owner, house in pairs]), tuple([house for owner, house in pairs]))
    return None
