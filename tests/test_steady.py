import inspect
import itertools
import unittest

from lodgefair.errors import BadOrder
from lodgefair.steady import all_steady, asked, best, higher, lower, middle, worst
from tests.samples import BAD_ORDERS, crowded_fairs, is_truly_no_worse, larger_fairs, likes_more, orderings, orders
from tests.samples import round_fair, small_fairs, true_steady

# Guest 0 wants house 1 most, guest 1 wants house 0 most; the houses see it the other way round.
CROSSED = (((1, 0), (0, 1)), ((1, (0, 1)), (1, (1, 0))))

# Two pairs, each crossed for itself: four steady lodgings, two of which are neither higher nor lower.
TWICE_CROSSED = (((0, 1), (1, 0), (2, 3), (3, 2)), ((1, (1, 0)), (1, (0, 1)), (1, (3, 2)), (1, (2, 3))))

THREE = (((0, 1), (0, 1), (0, 1)), ((1, (2, 1, 0)), (1, (0, 1, 2))))

NOBODY_FITS = (((0,), (), (1,), (0, 1), ()), ((5, (1, 2, 4)), (0, (0, 1, 4))))

EDGES = (
    (((),), ((0, ()),)),
    (((0,),), ((0, (0,)),)),
    (((0,),), ((1, (0,)),)),
    (((0,),), ((5, (0,)),)),
    (((0,),) * 5, ((5, (0, 1, 2, 3, 4)),)),
    (((0,),) * 5, ((0, (0, 1, 2, 3, 4)),)),
    (((4, 3, 2, 1, 0),), ((1, (0,)),) * 5),
    (((0, 1, 2, 3, 4),) * 5, ((5, (4, 3, 2, 1, 0)),) * 5),
    (((0, 1, 2, 3, 4),) * 5, ((1, (4, 3, 2, 1, 0)),) * 5),
    (((0, 1, 2, 3, 4),) * 5, ((0, (4, 3, 2, 1, 0)),) * 5),
    (((),) * 5, ((5, ()),) * 5),
    NOBODY_FITS,
    CROSSED,
    TWICE_CROSSED,
    round_fair(3),
    round_fair(4),
    round_fair(5),
)

# The word-by-word reading is slow, so each fair is read once for all tests.
READINGS = []


def readings():
    if not READINGS:
        for fair in itertools.chain(EDGES, small_fairs(), larger_fairs(120), crowded_fairs(50)):
            READINGS.append((fair, true_steady(fair)))
    return READINGS


def true_asks(fair, order):
    """Point 6, word by word: what is asked, and what comes of it."""
    asks = []
    kept = {house: [] for house in range(len(fair[1]))}

    def left_to_ask(guest):
        fitting = [house for house in fair[0][guest] if guest in fair[1][house][1]]
        return [house for house in fitting if (guest, house) not in asks]

    def goes_on(guest):
        return not any(guest in guests for guests in kept.values()) and bool(left_to_ask(guest))

    while any(goes_on(guest) for guest in order):
        guest = next(guest for guest in order if goes_on(guest))
        house = left_to_ask(guest)[0]
        asks.append((guest, house))
        rooms, listed = fair[1][house]
        kept[house] = sorted(kept[house] + [guest], key=listed.index)[:rooms]
    had = [[house for house, guests in kept.items() if guest in guests] for guest in range(len(fair[0]))]
    return asks, tuple(houses[0] if houses else None for houses in had)


class TheBestAndTheWorst(unittest.TestCase):
    def test_crossed(self):
        self.assertEqual(best(CROSSED), (1, 0))
        self.assertEqual(worst(CROSSED), (0, 1))

    def test_twice_crossed(self):
        self.assertEqual(best(TWICE_CROSSED), (0, 1, 2, 3))
        self.assertEqual(worst(TWICE_CROSSED), (1, 0, 3, 2))

    def test_round(self):
        self.assertEqual(best(round_fair(5)), (0, 1, 2, 3, 4))
        self.assertEqual(worst(round_fair(5)), (4, 0, 1, 2, 3))

    def test_a_house_turns_guests_away(self):
        self.assertEqual(best(THREE), (1, None, 0))
        self.assertEqual(worst(THREE), (1, None, 0))

    def test_one_guest(self):
        self.assertEqual(best((((0,),), ((1, (0,)),))), (0,))
        self.assertEqual(worst((((0,),), ((1, (0,)),))), (0,))
        self.assertEqual(best((((1, 0),), ((1, (0,)), (1, (0,))))), (1,))
        self.assertEqual(worst((((1, 0),), ((1, (0,)), (1, (0,))))), (1,))

    def test_no_rooms_and_five_rooms(self):
        everyone = (4, 2, 0, 1, 3)
        for tell in (best, worst):
            self.assertEqual(tell((((0,),) * 5, ((0, everyone),))), (None,) * 5)
            self.assertEqual(tell((((0,),) * 5, ((2, everyone),))), (None, None, 0, None, 0))
            self.assertEqual(tell((((0,),) * 5, ((5, everyone),))), (0,) * 5)

    def test_nobody_fits(self):
        for tell in (best, worst):
            self.assertEqual(tell(NOBODY_FITS), (None,) * 5)
            self.assertEqual(tell((((),), ((1, (0,)),))), (None,))
            self.assertEqual(tell((((0,),), ((1, ()),))), (None,))

    def test_steady_and_liked_most_and_least_of_all_steady_ones(self):
        for fair, steady in readings():
            high = best(fair)
            low = worst(fair)
            self.assertIn(high, steady, fair)
            self.assertIn(low, steady, fair)
            self.assertIs(type(high), tuple)
            self.assertIs(type(low), tuple)
            for lodging in steady:
                self.assertTrue(is_truly_no_worse(fair, high, lodging), (fair, lodging))
                self.assertTrue(is_truly_no_worse(fair, lodging, low), (fair, lodging))

    def test_the_readings_hold_fairs_with_several_steady_lodgings(self):
        counts = [len(steady) for _, steady in readings()]
        self.assertGreater(sum(count > 1 for count in counts), 25)
        self.assertGreater(sum(count > 2 for count in counts), 5)
        self.assertEqual(min(counts), 1)


class WhatIsAsked(unittest.TestCase):
    def test_the_first_in_the_order_asks_each_time(self):
        self.assertEqual(asked(THREE, [0, 1, 2]), [(0, 0), (1, 0), (0, 1), (2, 0), (1, 1)])
        self.assertEqual(asked(THREE, [2, 1, 0]), [(2, 0), (1, 0), (1, 1), (0, 0), (0, 1)])

    def test_who_is_turned_away_asks_again_ahead_of_who_stands_behind(self):
        self.assertEqual(asked(THREE, [1, 0, 2]), [(1, 0), (0, 0), (0, 1), (2, 0), (1, 1)])

    def test_a_house_without_rooms_is_asked_too(self):
        fair = (((0, 1), (0,)), ((0, (0, 1)), (1, (0,))))
        self.assertEqual(asked(fair, [0, 1]), [(0, 0), (0, 1), (1, 0)])
        self.assertEqual(asked(fair, [1, 0]), [(1, 0), (0, 0), (0, 1)])

    def test_what_does_not_fit_is_not_asked(self):
        self.assertEqual(asked((((1, 0),), ((1, (0,)), (1, ()))), [0]), [(0, 0)])
        self.assertEqual(asked(NOBODY_FITS, [4, 3, 2, 1, 0]), [])
        self.assertEqual(asked((((),), ((0, ()),)), [0]), [])

    def test_in_every_order_as_the_words_say_and_the_best_one_comes(self):
        for fair in itertools.chain(EDGES, itertools.islice(small_fairs(), 0, None, 3), larger_fairs(60), crowded_fairs(25)):
            high = best(fair)
            for order in orders(fair):
                asks, lodging = true_asks(fair, order)
                self.assertEqual(asked(fair, order), asks, (fair, order))
                self.assertEqual(lodging, high, (fair, order))

    def test_a_new_list_of_tuples_each_time(self):
        first = asked(CROSSED, [0, 1])
        self.assertIs(type(first), list)
        self.assertTrue(all(type(ask) is tuple for ask in first))
        self.assertEqual(first, [(0, 1), (1, 0)])
        first.clear()
        self.assertEqual(asked(CROSSED, [0, 1]), [(0, 1), (1, 0)])

    def test_the_order_is_left_as_it_was(self):
        order = [2, 0, 1]
        asked(THREE, order)
        self.assertEqual(order, [2, 0, 1])

    def test_what_is_no_order_is_refused(self):
        for order in BAD_ORDERS:
            with self.assertRaises(BadOrder, msg=order):
                asked(THREE, order)

    def test_orders_of_one_and_of_five(self):
        one = (((0,),), ((1, (0,)),))
        five = (((0,),) * 5, ((5, (0, 1, 2, 3, 4)),))
        self.assertEqual(asked(one, [0]), [(0, 0)])
        self.assertEqual(asked(five, [3, 1, 4, 0, 2]), [(3, 0), (1, 0), (4, 0), (0, 0), (2, 0)])
        for order in ([], [1], [0, 0], [False], [None], (0,)):
            with self.assertRaises(BadOrder, msg=order):
                asked(one, order)
        for order in ([3, 1, 4, 0], [3, 1, 4, 0, 0], [3, 1, 4, 0, 5], [3, True, 4, 0, 2], [3, 1, 4, 0, 2, 5]):
            with self.assertRaises(BadOrder, msg=order):
                asked(five, order)

    def test_a_refused_order_is_left_as_it_was(self):
        order = [2, 0, 0]
        with self.assertRaises(BadOrder):
            asked(THREE, order)
        self.assertEqual(order, [2, 0, 0])


class NoLieHelps(unittest.TestCase):
    def assert_no_lie_helps(self, fair):
        wishes, houses = fair
        had = best(fair)
        for guest, wish in enumerate(wishes):
            for lie in orderings(len(houses)):
                got = best((wishes[:guest] + (lie,) + wishes[guest + 1:], houses))[guest]
                # A house that it would not take is no gain.
                if got in wish:
                    self.assertFalse(likes_more(fair, guest, got, had[guest]), (fair, guest, lie))

    def test_in_small_fairs(self):
        for fair in small_fairs():
            self.assert_no_lie_helps(fair)

    def test_in_larger_fairs(self):
        for fair in itertools.chain(larger_fairs(12), crowded_fairs(12), (round_fair(4),)):
            self.assert_no_lie_helps(fair)


class AllSteadyOnes(unittest.TestCase):
    def test_crossed(self):
        self.assertEqual(all_steady(CROSSED), [(0, 1), (1, 0)])

    def test_twice_crossed(self):
        self.assertEqual(all_steady(TWICE_CROSSED), [(0, 1, 2, 3), (0, 1, 3, 2), (1, 0, 2, 3), (1, 0, 3, 2)])

    def test_nobody_fits(self):
        self.assertEqual(all_steady(NOBODY_FITS), [(None,) * 5])

    def test_with_guests_that_stay_without(self):
        fair = (((), (1, 0), (0, 1), (0,)), ((1, (1, 2, 3)), (1, (2, 1))))
        self.assertEqual(all_steady(fair), [(None, 0, 1, None), (None, 1, 0, None)])

    def test_as_the_words_say(self):
        for fair, steady in readings():
            self.assertEqual(all_steady(fair), steady, fair)

    def test_the_same_guests_have_a_house_in_all(self):
        for fair, _ in readings():
            told = all_steady(fair)
            without = {tuple(house is None for house in lodging) for lodging in told}
            self.assertEqual(len(without), 1, fair)

    def test_a_house_with_a_free_room_has_the_same_guests_in_all(self):
        for fair, _ in readings():
            told = all_steady(fair)
            for house, (rooms, _) in enumerate(fair[1]):
                guests = [tuple(had == house for had in lodging) for lodging in told]
                if any(sum(here) < rooms for here in guests):
                    self.assertEqual(len(set(guests)), 1, (fair, house))

    def test_somewhat_beyond_the_bounds(self):
        self.assertEqual(len(all_steady(round_fair(6))), 6)
        wide = (((0, 1),) * 6, ((6, (0, 1, 2, 3, 4, 5)), (7, (0, 1, 2, 3, 4, 5))))
        self.assertEqual(all_steady(wide), [(0,) * 6])

    def test_a_new_list_of_tuples_each_time(self):
        first = all_steady(CROSSED)
        self.assertIs(type(first), list)
        self.assertTrue(all(type(lodging) is tuple for lodging in first))
        first.clear()
        self.assertEqual(all_steady(CROSSED), [(0, 1), (1, 0)])


class OfTwoSteadyOnes(unittest.TestCase):
    def test_twice_crossed(self):
        self.assertEqual(higher(TWICE_CROSSED, (0, 1, 3, 2), (1, 0, 2, 3)), (0, 1, 2, 3))
        self.assertEqual(lower(TWICE_CROSSED, (0, 1, 3, 2), (1, 0, 2, 3)), (1, 0, 3, 2))

    def test_of_the_best_and_the_worst(self):
        self.assertEqual(higher(CROSSED, (0, 1), (1, 0)), (1, 0))
        self.assertEqual(higher(CROSSED, (1, 0), (0, 1)), (1, 0))
        self.assertEqual(lower(CROSSED, (0, 1), (1, 0)), (0, 1))
        self.assertEqual(lower(CROSSED, (1, 0), (0, 1)), (0, 1))

    def test_none_on_both_sides(self):
        self.assertEqual(higher(NOBODY_FITS, (None,) * 5, (None,) * 5), (None,) * 5)
        self.assertEqual(lower(NOBODY_FITS, (None,) * 5, (None,) * 5), (None,) * 5)

    def test_of_every_two_as_the_words_say(self):
        for fair, steady in readings():
            for one, other in itertools.product(steady, repeat=2):
                liked = [likes_more(fair, guest, *pair) for guest, pair in enumerate(zip(one, other))]
                up = tuple(pair[0] if more else pair[1] for more, pair in zip(liked, zip(one, other)))
                down = tuple(pair[1] if more else pair[0] for more, pair in zip(liked, zip(one, other)))
                self.assertEqual(higher(fair, one, other), up, (fair, one, other))
                self.assertEqual(lower(fair, one, other), down, (fair, one, other))
                self.assertIn(up, steady)
                self.assertIn(down, steady)
                self.assertIs(type(higher(fair, one, other)), tuple)
                self.assertIs(type(lower(fair, one, other)), tuple)


class TheMiddleOnes(unittest.TestCase):
    def test_round(self):
        told = [middle(round_fair(4), rank) for rank in range(4)]
        self.assertEqual(told, [(0, 1, 2, 3), (1, 2, 3, 0), (2, 3, 0, 1), (3, 0, 1, 2)])

    def test_twice_crossed_counts_each_house_as_often_as_it_comes(self):
        told = [middle(TWICE_CROSSED, rank) for rank in range(4)]
        self.assertEqual(told, [(0, 1, 2, 3), (0, 1, 2, 3), (1, 0, 3, 2), (1, 0, 3, 2)])

    def test_ranks_that_are_none(self):
        for fair, count in ((CROSSED, 2), (TWICE_CROSSED, 4), (NOBODY_FITS, 1), (round_fair(5), 5)):
            self.assertIsNotNone(middle(fair, 0))
            self.assertIsNotNone(middle(fair, count - 1))
            for rank in (count, count + 1, 10 ** 30, -1, -count, -count - 1, -(10 ** 30)):
                self.assertIsNone(middle(fair, rank), (fair, rank))

    def test_true_and_false_are_no_ranks(self):
        for rank in (True, False):
            self.assertIsNone(middle(CROSSED, rank))

    def test_as_the_words_say(self):
        for fair, steady in readings():
            wishes = fair[0]
            columns = []
            for guest, wish in enumerate(wishes):
                houses = [lodging[guest] for lodging in steady]
                columns.append(sorted(houses, key=lambda house: len(wish) if house is None else wish.index(house)))
            for rank in range(len(steady)):
                told = middle(fair, rank)
                self.assertEqual(told, tuple(column[rank] for column in columns), (fair, rank))
                self.assertIn(told, steady)
                self.assertIs(type(told), tuple)
            self.assertEqual(middle(fair, 0), best(fair))
            self.assertEqual(middle(fair, len(steady) - 1), worst(fair))
            self.assertIsNone(middle(fair, len(steady)))
            self.assertIsNone(middle(fair, -1))


class NothingIsKept(unittest.TestCase):
    def test_one_fair_says_nothing_of_the_next(self):
        turned = (((0, 1), (1, 0)), ((1, (0, 1)), (1, (1, 0))))
        for _ in range(2):
            self.assertEqual(best(CROSSED), (1, 0))
            self.assertEqual(best(turned), (0, 1))
            self.assertEqual(worst(CROSSED), (0, 1))
            self.assertEqual(worst(turned), (0, 1))
            self.assertEqual(all_steady(CROSSED), [(0, 1), (1, 0)])
            self.assertEqual(all_steady(turned), [(0, 1)])
            self.assertEqual(middle(CROSSED, 1), (0, 1))
            self.assertIsNone(middle(turned, 1))


class TheInterface(unittest.TestCase):
    def test_the_arguments(self):
        for function in (best, worst, all_steady):
            self.assertEqual(list(inspect.signature(function).parameters), ["fair"])
        for function in (higher, lower):
            self.assertEqual(list(inspect.signature(function).parameters), ["fair", "one", "other"])
        self.assertEqual(list(inspect.signature(asked).parameters), ["fair", "order"])
        self.assertEqual(list(inspect.signature(middle).parameters), ["fair", "rank"])


if __name__ == "__main__":
    unittest.main()
