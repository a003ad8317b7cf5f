import inspect
import itertools
import unittest

from lodgefair.bettering import better, bettered, picked
from lodgefair.errors import BadLodging, BadOrder
from tests.samples import BAD_ORDERS, STRANGE, crowded_fairs, guessed_lodgings, is_true_lodging, is_truly_no_worse
from tests.samples import larger_fairs, likes_more, orders, round_fair, small_fairs, true_lodgings

# Each guest has what the other would rather have, whatever the houses say.
SWAPPED = (((1, 0), (0, 1)), ((1, (0, 1)), (1, (1, 0))))

THREE = (((0, 1), (0, 1), (0, 1)), ((1, (2, 1, 0)), (1, (0, 1, 2))))

NOBODY_FITS = (((0,), (), (1,), (0, 1), ()), ((5, (1, 2, 4)), (0, (0, 1, 4))))


def betters(fair, one, other):
    """Point 10, word by word: no worse for the guests, and for some guest better."""
    gains = [likes_more(fair, guest, one[guest], other[guest]) for guest in range(len(other))]
    return is_truly_no_worse(fair, one, other) and any(gains)


class BetteringCase(unittest.TestCase):
    def assert_bettering(self, fair, lodging, lodgings):
        betterable = any(betters(fair, other, lodging) for other in lodgings)
        told = better(fair, lodging)
        if betterable:
            self.assertTrue(is_true_lodging(fair, told), (fair, lodging, told))
            self.assertTrue(betters(fair, told, lodging), (fair, lodging, told))
            self.assertIs(type(told), tuple)
        else:
            self.assertIsNone(told, (fair, lodging))
        self.assert_bettered(fair, lodging, lodgings)

    def assert_bettered(self, fair, lodging, lodgings):
        told = bettered(fair, lodging)
        self.assertIs(type(told), tuple)
        self.assertTrue(is_true_lodging(fair, told), (fair, lodging, told))
        self.assertTrue(is_truly_no_worse(fair, told, lodging), (fair, lodging, told))
        self.assert_not_betterable(fair, told, lodgings)

    def assert_not_betterable(self, fair, lodging, lodgings):
        self.assertFalse(any(betters(fair, other, lodging) for other in lodgings), (fair, lodging))


class Bettered(BetteringCase):
    def test_a_free_room(self):
        fair = (((1, 0),), ((1, (0,)), (1, (0,))))
        self.assertEqual(better(fair, (0,)), (1,))
        self.assertEqual(bettered(fair, (0,)), (1,))
        self.assertIn(better(fair, (None,)), [(0,), (1,)])
        self.assertEqual(bettered(fair, (None,)), (1,))

    def test_what_can_not_be_bettered(self):
        fair = (((1, 0),), ((1, (0,)), (1, (0,))))
        self.assertIsNone(better(fair, (1,)))
        self.assertEqual(bettered(fair, (1,)), (1,))

    def test_a_swap(self):
        self.assertEqual(better(SWAPPED, (0, 1)), (1, 0))
        self.assertEqual(bettered(SWAPPED, (0, 1)), (1, 0))
        self.assertIsNone(better(SWAPPED, (1, 0)))

    def test_a_ring_of_five(self):
        fair = round_fair(5)
        self.assertEqual(bettered(fair, (1, 2, 3, 4, 0)), (0, 1, 2, 3, 4))
        wishes = ((1, 0), (2, 1), (3, 2), (4, 3), (0, 4))
        houses = ((1, (0, 1, 2, 3, 4)),) * 5
        self.assertEqual(better((wishes, houses), (0, 1, 2, 3, 4)), (1, 2, 3, 4, 0))
        self.assertEqual(bettered((wishes, houses), (0, 1, 2, 3, 4)), (1, 2, 3, 4, 0))

    def test_no_guest_loses_for_anothers_gain(self):
        self.assertIsNone(better(THREE, (0, 1, None)))
        self.assertIsNone(better(THREE, (None, 0, 1)))
        self.assertEqual(bettered(THREE, (None, 0, 1)), (None, 0, 1))

    def test_a_guest_without_a_house_stays_so_where_rooms_are_taken(self):
        fair = (((0,),) * 5, ((2, (0, 1, 2, 3, 4)),))
        self.assertIsNone(better(fair, (None, 0, None, 0, None)))
        self.assertEqual(bettered(fair, (None, None, 0, None, None)).count(0), 2)
        self.assertEqual(bettered(fair, (None, None, 0, None, None))[2], 0)

    def test_no_rooms_and_five_rooms(self):
        none = (((0,),) * 5, ((0, (0, 1, 2, 3, 4)),))
        five = (((0,),) * 5, ((5, (0, 1, 2, 3, 4)),))
        self.assertIsNone(better(none, (None,) * 5))
        self.assertEqual(bettered(none, (None,) * 5), (None,) * 5)
        self.assertEqual(bettered(five, (None,) * 5), (0,) * 5)
        self.assertIsNone(better(five, (0,) * 5))

    def test_nobody_fits(self):
        self.assertIsNone(better(NOBODY_FITS, (None,) * 5))
        self.assertEqual(bettered(NOBODY_FITS, (None,) * 5), (None,) * 5)
        self.assertIsNone(better((((),), ((1, ()),)), (None,)))

    def test_every_lodging_of_small_fairs(self):
        for fair in small_fairs():
            lodgings = true_lodgings(fair)
            for lodging in lodgings:
                self.assert_bettering(fair, lodging, lodgings)

    def test_lodgings_of_larger_fairs(self):
        for fair in itertools.chain(larger_fairs(80), crowded_fairs(20), (round_fair(5),)):
            lodgings = true_lodgings(fair)
            for lodging in lodgings[::max(1, len(lodgings) // 12)]:
                self.assert_bettering(fair, lodging, lodgings)

    def test_bettered_lodgings_are_not_betterable(self):
        for fair in itertools.chain(larger_fairs(80), crowded_fairs(20)):
            for lodging in true_lodgings(fair)[:40]:
                self.assertIsNone(better(fair, bettered(fair, lodging)))

    def test_somewhat_beyond_the_bounds(self):
        wide = (((1, 0),) * 6, ((6, (0, 1, 2, 3, 4, 5)), (7, (0, 1, 2, 3, 4, 5))))
        self.assertEqual(bettered(wide, (0,) * 6), (1,) * 6)
        self.assertIsNone(better(wide, (1,) * 6))

    def test_one_call_says_nothing_of_the_next(self):
        other = (((0, 1), (1, 0)), ((1, (0, 1)), (1, (1, 0))))
        for _ in range(2):
            self.assertEqual(better(SWAPPED, (0, 1)), (1, 0))
            self.assertIsNone(better(other, (0, 1)))
            self.assertEqual(bettered(SWAPPED, (0, 1)), (1, 0))
            self.assertEqual(bettered(other, (0, 1)), (0, 1))


class NoLodgings(unittest.TestCase):
    def assert_refused(self, fair, lodging):
        for function in (better, bettered):
            with self.assertRaises(BadLodging, msg=(function, lodging)):
                function(fair, lodging)

    def test_another_kind_of_thing(self):
        for thing in (None, 0, 1, *STRANGE, [1, 0], [None, None], "10", {0: 1, 1: 0}):
            self.assert_refused(SWAPPED, thing)

    def test_too_short_or_too_long(self):
        for lodging in ((), (1,), (None,), (1, 0, None), (None, None, None), (1, 0, 0)):
            self.assert_refused(SWAPPED, lodging)

    def test_no_house_in_a_houses_place(self):
        for thing in ((), (0,), 2, -1, 10 ** 30, *STRANGE):
            self.assert_refused(SWAPPED, (thing, None))
            self.assert_refused(SWAPPED, (None, thing))

    def test_true_and_false_are_no_houses(self):
        for lodging in ((True, 0), (1, False), (True, False), (False, 1), (None, True)):
            self.assert_refused(SWAPPED, lodging)

    def test_what_does_not_fit_or_has_no_room(self):
        for fair in itertools.islice(small_fairs(), 0, None, 5):
            for guess in guessed_lodgings(fair):
                if not is_true_lodging(fair, guess):
                    self.assert_refused(fair, guess)

    def test_what_is_refused_is_left_as_it_was(self):
        lodging = [0, 1]
        self.assert_refused(SWAPPED, lodging)
        self.assertEqual(lodging, [0, 1])


def true_pick(fair, order):
    """Point 11, word by word."""
    wishes, houses = fair
    free = [rooms for rooms, _ in houses]
    had = {}
    for guest in order:
        had[guest] = None
        for house in wishes[guest]:
            if guest in houses[house][1] and free[house] > 0:
                had[guest] = house
                free[house] -= 1
                break
    return tuple(had[guest] for guest in range(len(wishes)))


class Picked(BetteringCase):
    def test_the_order_decides(self):
        self.assertEqual(picked(THREE, [0, 1, 2]), (0, 1, None))
        self.assertEqual(picked(THREE, [2, 0, 1]), (1, None, 0))
        self.assertEqual(picked(THREE, [1, 2, 0]), (None, 0, 1))

    def test_what_does_not_fit_is_not_picked(self):
        self.assertEqual(picked((((1, 0),), ((1, (0,)), (1, ()))), [0]), (0,))
        self.assertEqual(picked(NOBODY_FITS, [4, 3, 2, 1, 0]), (None,) * 5)
        self.assertEqual(picked((((),), ((1, (0,)),)), [0]), (None,))

    def test_no_rooms_some_and_five(self):
        everyone = (0, 1, 2, 3, 4)
        self.assertEqual(picked((((0,),) * 5, ((0, everyone),)), [3, 1, 4, 0, 2]), (None,) * 5)
        self.assertEqual(picked((((0,),) * 5, ((2, everyone),)), [3, 1, 4, 0, 2]), (None, 0, None, 0, None))
        self.assertEqual(picked((((0,),) * 5, ((5, everyone),)), [3, 1, 4, 0, 2]), (0,) * 5)

    def test_in_every_order_as_the_words_say(self):
        for fair in itertools.chain(small_fairs(), larger_fairs(60), crowded_fairs(20)):
            for order in orders(fair):
                told = picked(fair, order)
                self.assertEqual(told, true_pick(fair, order), (fair, order))
                self.assertIs(type(told), tuple)

    def test_what_comes_is_not_betterable(self):
        for fair in itertools.chain(itertools.islice(small_fairs(), 0, None, 3), larger_fairs(40), crowded_fairs(10)):
            lodgings = true_lodgings(fair)
            for order in orders(fair)[:6]:
                told = picked(fair, order)
                self.assert_not_betterable(fair, told, lodgings)
                self.assertIsNone(better(fair, told))

    def test_what_is_no_order_is_refused(self):
        for order in BAD_ORDERS:
            with self.assertRaises(BadOrder, msg=order):
                picked(THREE, order)

    def test_orders_of_one(self):
        one = (((0,),), ((1, (0,)),))
        self.assertEqual(picked(one, [0]), (0,))
        for order in ([], [1], [0, 0], [False], [None], (0,)):
            with self.assertRaises(BadOrder, msg=order):
                picked(one, order)

    def test_the_order_is_left_as_it_was(self):
        order = [2, 0, 1]
        picked(THREE, order)
        self.assertEqual(order, [2, 0, 1])
        bad = [2, 0, 0]
        with self.assertRaises(BadOrder):
            picked(THREE, bad)
        self.assertEqual(bad, [2, 0, 0])


class TheInterface(unittest.TestCase):
    def test_the_arguments(self):
        for function in (better, bettered):
            self.assertEqual(list(inspect.signature(function).parameters), ["fair", "lodging"])
        self.assertEqual(list(inspect.signature(picked).parameters), ["fair", "order"])


if __name__ == "__main__":
    unittest.main()
