import inspect
import itertools
import unittest

from lodgefair.errors import BadLodging
from lodgefair.lodgings import checked_lodging, is_steady, no_worse, spoilers
from tests.samples import STRANGE, guessed_lodgings, is_true_lodging, larger_fairs, likes_more, small_fairs
from tests.samples import true_lodgings, true_spoilers

# Guest 0 wants house 1 most, guest 1 wants house 0 most; the houses see it the other way round.
CROSSED = (((1, 0), (0, 1)), ((1, (0, 1)), (1, (1, 0))))

REFUSING = (checked_lodging, spoilers, is_steady)


class LodgingCase(unittest.TestCase):
    def assert_refused(self, fair, lodging):
        for function in REFUSING:
            with self.assertRaises(BadLodging, msg=(function, lodging)):
                function(fair, lodging)

    def assert_taken(self, fair, lodging):
        self.assertIs(checked_lodging(fair, lodging), lodging)


class WhatALodgingIs(LodgingCase):
    def test_a_lodging_is_told_as_it_is(self):
        for lodging in ((0, 1), (1, 0), (None, 0), (1, None), (None, None)):
            self.assert_taken(CROSSED, lodging)

    def test_every_guess_for_every_small_fair(self):
        for fair in small_fairs():
            for guess in guessed_lodgings(fair):
                if is_true_lodging(fair, guess):
                    self.assert_taken(fair, guess)
                else:
                    self.assert_refused(fair, guess)

    def test_one_guest_and_one_house(self):
        fair = (((0,),), ((1, (0,)),))
        self.assert_taken(fair, (0,))
        self.assert_taken(fair, (None,))

    def test_five_guests_in_five_rooms(self):
        everyone = (0, 1, 2, 3, 4)
        self.assert_taken((((0,),) * 5, ((5, everyone),)), (0,) * 5)
        self.assert_taken((((0, 1, 2, 3, 4),) * 5, ((1, everyone),) * 5), (4, 2, 0, 1, 3))

    def test_too_long_or_too_short(self):
        for lodging in ((), (1,), (None,), (1, 0, None), (None, None, None), (1, 0, 0)):
            self.assert_refused(CROSSED, lodging)

    def test_another_kind_of_thing(self):
        for thing in (None, 0, 1, *STRANGE, [1, 0], [None, None], "10", {0: 1, 1: 0}):
            self.assert_refused(CROSSED, thing)

    def test_no_house_in_a_houses_place(self):
        for thing in ((), (0,), *STRANGE):
            self.assert_refused(CROSSED, (thing, None))
            self.assert_refused(CROSSED, (None, thing))

    def test_true_and_false_are_no_houses(self):
        for lodging in ((True, 0), (1, False), (True, False), (False, 1), (None, True)):
            self.assert_refused(CROSSED, lodging)

    def test_a_house_beyond(self):
        for house in (2, 5, -1, -2, 10 ** 30):
            self.assert_refused(CROSSED, (house, None))
            self.assert_refused(CROSSED, (None, house))

    def test_a_house_that_does_not_fit(self):
        fair = (((0,), (1,), (0, 1)), ((3, (1, 2)), (3, (2,))))
        self.assert_refused(fair, (0, None, None))
        self.assert_refused(fair, (None, 0, None))
        self.assert_refused(fair, (1, None, None))
        self.assert_taken(fair, (None, None, 0))

    def test_more_guests_than_rooms(self):
        for rooms in range(6):
            fair = (((0,),) * 5, ((rooms, (0, 1, 2, 3, 4)),))
            for lodged in range(6):
                lodging = (None,) * (5 - lodged) + (0,) * lodged
                if lodged <= rooms:
                    self.assert_taken(fair, lodging)
                else:
                    self.assert_refused(fair, lodging)

    def test_the_last_house_is_counted_too(self):
        fair = (((0, 1),) * 2, ((2, (0, 1)), (1, (0, 1))))
        self.assert_taken(fair, (0, 0))
        self.assert_refused(fair, (1, 1))


class TheSpoilers(LodgingCase):
    def test_a_free_room(self):
        fair = (((0,),), ((1, (0,)),))
        self.assertEqual(spoilers(fair, (None,)), [(0, 0)])
        self.assertEqual(spoilers(fair, (0,)), [])

    def test_a_house_without_rooms_spoils_nothing(self):
        fair = (((0,),), ((0, (0,)),))
        self.assertEqual(spoilers(fair, (None,)), [])
        self.assertIs(is_steady(fair, (None,)), True)

    def test_a_guest_that_the_house_likes_less(self):
        fair = (((0,), (0,)), ((1, (1, 0)),))
        self.assertEqual(spoilers(fair, (0, None)), [(1, 0)])
        self.assertEqual(spoilers(fair, (None, 0)), [])

    def test_one_liked_less_among_several_is_enough(self):
        fair = (((0,),) * 3, ((2, (0, 1, 2)),))
        self.assertEqual(spoilers(fair, (0, None, 0)), [(1, 0)])
        self.assertEqual(spoilers(fair, (None, 0, 0)), [(0, 0)])
        self.assertEqual(spoilers(fair, (0, 0, None)), [])

    def test_a_guest_keeps_what_it_likes_better(self):
        fair = (((1, 0),), ((1, (0,)), (1, (0,))))
        self.assertEqual(spoilers(fair, (1,)), [])
        self.assertEqual(spoilers(fair, (0,)), [(0, 1)])
        self.assertEqual(spoilers(fair, (None,)), [(0, 0), (0, 1)])

    def test_a_free_room_beside_its_own_is_no_spoiler(self):
        self.assertEqual(spoilers((((0,),), ((5, (0,)),)), (0,)), [])

    def test_what_does_not_fit_spoils_nothing(self):
        fair = (((0,), ()), ((2, (1,)), (2, (0,))))
        self.assertEqual(spoilers(fair, (None, None)), [])

    def test_empty_wishes_and_lists(self):
        fair = (((),) * 5, ((5, ()),) * 5)
        self.assertEqual(spoilers(fair, (None,) * 5), [])

    def test_two_steady_lodgings(self):
        self.assertIs(is_steady(CROSSED, (1, 0)), True)
        self.assertIs(is_steady(CROSSED, (0, 1)), True)
        self.assertIs(is_steady(CROSSED, (None, None)), False)
        self.assertEqual(spoilers(CROSSED, (None, None)), [(0, 0), (0, 1), (1, 0), (1, 1)])

    def test_rising_though_the_wishes_fall(self):
        fair = (((4, 3, 2, 1, 0),) * 5, ((1, (4, 3, 2, 1, 0)),) * 5)
        self.assertEqual(spoilers(fair, (None,) * 5), list(itertools.product(range(5), repeat=2)))

    def test_every_small_fair(self):
        for fair in small_fairs():
            self.assert_spoilers_of_all_lodgings(fair)

    def test_larger_fairs(self):
        for fair in larger_fairs(150):
            self.assert_spoilers_of_all_lodgings(fair)

    def assert_spoilers_of_all_lodgings(self, fair):
        for lodging in true_lodgings(fair):
            expected = true_spoilers(fair, lodging)
            self.assertEqual(spoilers(fair, lodging), expected, (fair, lodging))
            self.assertIs(is_steady(fair, lodging), not expected)

    def test_a_new_list_each_time(self):
        first = spoilers(CROSSED, (None, 0))
        self.assertIs(type(first), list)
        self.assertTrue(all(type(spoiler) is tuple for spoiler in first))
        self.assertEqual(first, [(0, 0), (0, 1)])
        first.clear()
        self.assertEqual(spoilers(CROSSED, (None, 0)), [(0, 0), (0, 1)])
        self.assertIsNot(spoilers(CROSSED, (1, 0)), spoilers(CROSSED, (1, 0)))


class NoWorse(unittest.TestCase):
    def test_all_better_off(self):
        self.assertIs(no_worse(CROSSED, (1, 0), (0, 1)), True)
        self.assertIs(no_worse(CROSSED, (0, 1), (1, 0)), False)

    def test_the_same_is_no_worse(self):
        for lodging in true_lodgings(CROSSED):
            self.assertIs(no_worse(CROSSED, lodging, lodging), True)

    def test_one_that_loses_is_enough(self):
        fair = (((0, 1),) * 2, ((1, (0, 1)), (1, (0, 1))))
        self.assertIs(no_worse(fair, (0, 1), (1, 0)), False)
        self.assertIs(no_worse(fair, (1, 0), (0, 1)), False)

    def test_any_house_that_fits_is_better_than_none(self):
        fair = (((0, 1),), ((1, (0,)), (1, (0,))))
        self.assertIs(no_worse(fair, (1,), (None,)), True)
        self.assertIs(no_worse(fair, (None,), (1,)), False)
        self.assertIs(no_worse(fair, (None,), (None,)), True)

    def test_the_last_of_five_counts(self):
        fair = (((0, 1),) * 5, ((5, (0, 1, 2, 3, 4)),) * 2)
        self.assertIs(no_worse(fair, (0, 0, 0, 0, 1), (1, 1, 1, 1, 1)), True)
        self.assertIs(no_worse(fair, (0, 0, 0, 0, 1), (1, 1, 1, 1, 0)), False)
        self.assertIs(no_worse(fair, (0, 0, 0, 0, None), (1, 1, 1, 1, 1)), False)

    def test_lodgings_need_not_be_steady(self):
        self.assertIs(no_worse(CROSSED, (1, None), (None, None)), True)
        self.assertIs(no_worse(CROSSED, (None, None), (1, None)), False)

    def test_every_two_lodgings_of_small_and_larger_fairs(self):
        for fair in itertools.chain(small_fairs(), larger_fairs(25)):
            lodgings = true_lodgings(fair)[:60]
            for one, other in itertools.product(lodgings, repeat=2):
                loses = [likes_more(fair, guest, other[guest], one[guest]) for guest in range(len(one))]
                self.assertIs(no_worse(fair, one, other), not any(loses), (fair, one, other))


class NothingIsChangedOrKept(LodgingCase):
    def test_what_is_refused_is_left_as_it_was(self):
        lodging = [1, 0]
        self.assert_refused(CROSSED, lodging)
        self.assertEqual(lodging, [1, 0])

    def test_one_call_says_nothing_of_the_next(self):
        other = (((0, 1), (0, 1)), ((1, (0, 1)), (1, (1, 0))))
        for _ in range(2):
            self.assertEqual(spoilers(CROSSED, (1, 0)), [])
            self.assertEqual(spoilers(other, (1, 0)), [(0, 0)])
            self.assertIs(is_steady(CROSSED, (1, 0)), True)
            self.assertIs(is_steady(other, (1, 0)), False)
            self.assert_refused(CROSSED, (1, 1))
            self.assertIs(no_worse(CROSSED, (1, 0), (0, 1)), True)
            self.assertIs(no_worse(other, (1, 0), (0, 1)), False)


class TheInterface(unittest.TestCase):
    def test_the_arguments(self):
        for function in REFUSING:
            self.assertEqual(list(inspect.signature(function).parameters), ["fair", "lodging"])
        self.assertEqual(list(inspect.signature(no_worse).parameters), ["fair", "one", "other"])


if __name__ == "__main__":
    unittest.main()
