import inspect
import itertools
import random
import unittest

from lodgefair.errors import BadLodging, BadMarket
from lodgefair.trades import breakers, checked_market, fair_deal
from tests.samples import STRANGE, all_of

# Owner 0 and 1 want each other's house, owner 2 wants house 0 and keeps its own.
THREE = ((1, 0, 2), (0, 1, 2), (0, 1, 2))

STAY = ((0, 1, 2), (1, 2, 0), (2, 0, 1))

CIRCLE = ((1, 0, 2, 3, 4), (2, 1, 0, 3, 4), (3, 2, 0, 1, 4), (4, 3, 0, 1, 2), (0, 4, 1, 2, 3))


def all_markets(count):
    return itertools.product(itertools.permutations(range(count)), repeat=count)


def larger_markets(how_many):
    """The same markets each time, of four or five owners."""
    chance = random.Random(1985)
    for _ in range(how_many):
        count = chance.randint(4, 5)
        yield tuple(all_of(chance, count) for _ in range(count))


def true_fair_deal(market):
    """Point 13, word by word: a ring is found by walking from each owner."""
    left = set(range(len(market)))
    got = {}
    while left:
        points = {owner: next(house for house in market[owner] if house in left) for owner in left}
        ringed = set()
        for owner in left:
            walk = [points[owner]]
            while len(walk) < len(left):
                walk.append(points[walk[-1]])
            if owner in walk:
                ringed.add(owner)
        for owner in ringed:
            got[owner] = points[owner]
        left -= ringed
    return tuple(got[owner] for owner in range(len(market)))


def do_break(market, deal, owners, houses):
    """Point 13, word by word, of the breakers of a deal."""
    if sorted(houses) != sorted(owners):
        return False
    steps = []
    for owner, house in zip(owners, houses):
        wish = market[owner]
        steps.append(wish.index(deal[owner]) - wish.index(house))
    return min(steps) >= 0 and max(steps) > 0


def has_breakers(market, deal):
    for count in range(1, len(market) + 1):
        for owners in itertools.combinations(range(len(market)), count):
            for houses in itertools.permutations(owners):
                if do_break(market, deal, owners, houses):
                    return True
    return False


class TheMarkets(unittest.TestCase):
    def test_a_market_is_told_as_it_is(self):
        for market in (((0,),), THREE, STAY, CIRCLE, ((4, 3, 2, 1, 0),) * 5, *all_markets(2), *larger_markets(20)):
            self.assertIs(checked_market(market), market)


BAD_MARKETS = (
    None, 0, 3, *STRANGE, (), ((),), ((), ()), [(0,)], list(THREE), "abc", {0: (0,)},
    # No tuple of wishes.
    (None,), (0,), ("0",), ([0],), ((0, 1), [0, 1]), ((0, 1), None), ((0, 1), "01"), ((0, 1), 1), ((0, 1), True),
    # A wish too short, too long, with a house twice, or beyond.
    ((0, 1), (0,)), ((0,), (0, 1)), ((0, 1), ()), ((0, 1), (0, 1, 2)), ((0, 1, 0), (0, 1)), ((0, 0), (0, 1)),
    ((0, 1), (1, 1)), ((0, 2), (0, 1)), ((0, 1), (1, 2)), ((0, 1), (-1, 0)), ((1,),), ((-1,),), ((0, 0),),
    # No number in a number's place.
    ((False,),), ((None,),), (("0",),), ((0.0,),), (((0,),),), (([],),), (({},),),
    ((0, True), (0, 1)), ((0, 1), (False, 1)), ((False, True), (0, 1)), ((0, None), (0, 1)), ((0, "1"), (0, 1)),
    # Too many owners.
    ((0, 1, 2, 3, 4, 5),) * 6, ((0, 1, 2, 3, 4, 5, 6),) * 7, ((0, 1, 2, 3, 4),) * 6,
    (*CIRCLE[:4], (0, 4, 1, 2)), (*CIRCLE[:4], (0, 4, 1, 2, 2)), (*CIRCLE[:4], (0, 4, True, 2, 3)),
)


class NoMarkets(unittest.TestCase):
    def test_all_are_refused(self):
        for thing in BAD_MARKETS:
            with self.assertRaises(BadMarket, msg=thing):
                checked_market(thing)
            with self.assertRaises(BadMarket, msg=thing):
                fair_deal(thing)
            with self.assertRaises(BadMarket, msg=thing):
                breakers(thing, (0,))

    def test_the_market_is_refused_ahead_of_the_deal(self):
        for thing in BAD_MARKETS:
            for deal in (None, "x", (), (0, 0), [0]):
                with self.assertRaises(BadMarket, msg=(thing, deal)):
                    breakers(thing, deal)

    def test_what_is_refused_is_left_as_it_was(self):
        market = [[1, 0], [0, 1]]
        with self.assertRaises(BadMarket):
            checked_market(market)
        self.assertEqual(market, [[1, 0], [0, 1]])


class NoDeals(unittest.TestCase):
    def assert_refused(self, market, deal):
        with self.assertRaises(BadLodging, msg=(market, deal)):
            breakers(market, deal)

    def test_another_kind_of_thing(self):
        for deal in (None, 0, 3, *STRANGE, [1, 0, 2], "102", {0: 1, 1: 0, 2: 2}, range(3), {0, 1, 2}):
            self.assert_refused(THREE, deal)

    def test_too_short_or_too_long(self):
        for deal in ((), (1,), (1, 0), (1, 0, 2, 3), (1, 0, 2, 2), (1, 0, 2, None)):
            self.assert_refused(THREE, deal)
        for deal in ((), (0, 0), (0, 1)):
            self.assert_refused(((0,),), deal)
        for deal in ((1, 2, 3, 4), (1, 2, 3, 4, 0, 5)):
            self.assert_refused(CIRCLE, deal)

    def test_a_house_twice_or_beyond(self):
        for deal in ((1, 1, 2), (0, 0, 0), (2, 0, 2), (1, 0, 3), (1, 2, 3), (-1, 0, 1), (1, 0, -1), (1, 0, 10 ** 30)):
            self.assert_refused(THREE, deal)
        for deal in ((1,), (-1,)):
            self.assert_refused(((0,),), deal)

    def test_no_number_in_a_numbers_place(self):
        for thing in (None, (), (2,), "2", *STRANGE):
            self.assert_refused(THREE, (1, 0, thing))
            self.assert_refused(THREE, (thing, 0, 2))

    def test_true_and_false_are_no_houses(self):
        for deal in ((True, 0, 2), (1, False, 2), (True, False, 2), (False, True, 2)):
            self.assert_refused(THREE, deal)
        self.assert_refused(((0,),), (False,))

    def test_what_is_refused_is_left_as_it_was(self):
        deal = [1, 0, 2]
        self.assert_refused(THREE, deal)
        self.assertEqual(deal, [1, 0, 2])


class TheFairDeal(unittest.TestCase):
    def test_one_owner(self):
        self.assertEqual(fair_deal(((0,),)), (0,))

    def test_two_swap_and_one_keeps_its_own(self):
        self.assertEqual(fair_deal(THREE), (1, 0, 2))

    def test_everybody_stays(self):
        self.assertEqual(fair_deal(STAY), (0, 1, 2))

    def test_a_ring_of_five(self):
        self.assertEqual(fair_deal(CIRCLE), (1, 2, 3, 4, 0))

    def test_all_want_the_same(self):
        self.assertEqual(fair_deal(((4, 3, 2, 1, 0),) * 5), (0, 1, 2, 3, 4))

    def test_later_rounds_count_who_is_left(self):
        # Owner 0 keeps its own; then 1 and 2, which wanted it too, swap.
        self.assertEqual(fair_deal(((0, 1, 2), (0, 2, 1), (0, 1, 2))), (0, 2, 1))

    def test_every_market_of_up_to_three_and_larger_ones_as_the_words_say(self):
        for market in itertools.chain(all_markets(1), all_markets(2), all_markets(3), larger_markets(400)):
            told = fair_deal(market)
            self.assertEqual(told, true_fair_deal(market), market)
            self.assertIs(type(told), tuple)


class TheBreakers(unittest.TestCase):
    def assert_breakers(self, market, deal, is_fair):
        told = breakers(market, deal)
        if is_fair:
            self.assertIsNone(told, (market, deal))
            return
        self.assertIs(type(told), tuple, (market, deal))
        self.assertEqual([type(part) for part in told], [tuple, tuple])
        owners, houses = told
        self.assertEqual(list(owners), sorted(set(owners)))
        self.assertTrue(set(owners) <= set(range(len(market))))
        self.assertTrue(do_break(market, deal, owners, houses), (market, deal, told))

    def test_the_fair_deal_has_none(self):
        self.assertIsNone(breakers(((0,),), (0,)))
        self.assertIsNone(breakers(THREE, (1, 0, 2)))
        self.assertIsNone(breakers(CIRCLE, (1, 2, 3, 4, 0)))

    def test_two_that_could_swap(self):
        self.assertEqual(breakers(((1, 0), (0, 1)), (0, 1)), ((0, 1), (1, 0)))
        self.assertEqual(breakers(THREE, (0, 1, 2)), ((0, 1), (1, 0)))

    def test_one_that_would_rather_keep_its_own(self):
        self.assertEqual(breakers(((0, 1), (0, 1)), (1, 0)), ((0,), (0,)))

    def test_a_ring_of_five(self):
        self.assertEqual(breakers(CIRCLE, (0, 1, 2, 3, 4)), ((0, 1, 2, 3, 4), (1, 2, 3, 4, 0)))

    def test_every_deal_of_every_market_of_up_to_three(self):
        for count in (1, 2, 3):
            for market in all_markets(count):
                fair = true_fair_deal(market)
                for deal in itertools.permutations(range(count)):
                    self.assert_breakers(market, deal, deal == fair)

    def test_every_deal_of_larger_markets(self):
        for market in larger_markets(60):
            fair = true_fair_deal(market)
            for deal in itertools.permutations(range(len(market))):
                self.assert_breakers(market, deal, deal == fair)

    def test_the_words_agree_that_the_fair_deal_alone_has_none(self):
        for market in itertools.chain(all_markets(2), itertools.islice(all_markets(3), 0, None, 4), larger_markets(3)):
            for deal in itertools.permutations(range(len(market))):
                self.assertIs(has_breakers(market, deal), deal != fair_deal(market), (market, deal))

    def test_one_call_says_nothing_of_the_next(self):
        for _ in range(2):
            self.assertEqual(fair_deal(THREE), (1, 0, 2))
            self.assertEqual(fair_deal(STAY), (0, 1, 2))
            self.assertIsNone(breakers(STAY, (0, 1, 2)))
            self.assertIsNotNone(breakers(THREE, (0, 1, 2)))


class TheInterface(unittest.TestCase):
    def test_the_arguments(self):
        for function in (checked_market, fair_deal):
            self.assertEqual(list(inspect.signature(function).parameters), ["market"])
        self.assertEqual(list(inspect.signature(breakers).parameters), ["market", "deal"])


if __name__ == "__main__":
    unittest.main()
