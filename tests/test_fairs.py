import inspect
import itertools
import unittest

from lodgefair.errors import BadFair
from lodgefair.fairs import checked, choices, fits
from tests.samples import STRANGE, do_fit, larger_fairs, small_fairs

ORDINARY = (((1, 0), (0,), (0, 1)), ((1, (0, 1, 2)), (2, (2, 0))))


class FairCase(unittest.TestCase):
    def assert_refused(self, fair, at):
        with self.assertRaises(BadFair) as caught:
            checked(fair)
        self.assertEqual(caught.exception.at, at)
        if at is not None:
            self.assertIs(type(caught.exception.at), tuple)

    def assert_taken(self, fair):
        self.assertIs(checked(fair), fair)


class FairsThatAreTaken(FairCase):
    def test_a_fair_is_told_as_it_is(self):
        self.assert_taken(ORDINARY)

    def test_every_small_fair(self):
        for fair in small_fairs():
            self.assert_taken(fair)

    def test_larger_fairs(self):
        for fair in larger_fairs(300):
            self.assert_taken(fair)

    def test_the_smallest(self):
        self.assert_taken((((),), ((0, ()),)))
        self.assert_taken((((0,),), ((1, (0,)),)))

    def test_one_and_five_on_either_side(self):
        for guests, houses in itertools.product((1, 5), repeat=2):
            wish = tuple(range(houses))
            listed = tuple(range(guests))
            self.assert_taken(((wish,) * guests, ((5, listed),) * houses))
            self.assert_taken(((wish[::-1],) * guests, ((0, listed[::-1]),) * houses))

    def test_every_count_on_either_side(self):
        for guests, houses in itertools.product(range(1, 6), repeat=2):
            self.assert_taken((((),) * guests, ((1, ()),) * houses))

    def test_every_number_of_rooms(self):
        for rooms in range(6):
            self.assert_taken((((0,),), ((rooms, (0,)),)))

    def test_a_wish_need_not_be_answered(self):
        self.assert_taken((((0,), ()), ((1, (1,)),)))


class FairsWithoutTwoSides(FairCase):
    def test_another_kind_of_thing(self):
        for thing in (None, 0, 7, *STRANGE):
            self.assert_refused(thing, None)

    def test_no_two_things(self):
        wishes, houses = ORDINARY
        for thing in ((), (wishes,), (wishes, houses, ()), (wishes, houses, houses)):
            self.assert_refused(thing, None)

    def test_a_list_of_two(self):
        self.assert_refused(list(ORDINARY), None)

    def test_a_side_of_another_kind(self):
        wishes, houses = ORDINARY
        for side in (None, 0, 1, *STRANGE, list(wishes), list(houses)):
            self.assert_refused((side, houses), None)
            self.assert_refused((wishes, side), None)

    def test_none_or_six_guests(self):
        for count in (0, 6, 7):
            self.assert_refused((((),) * count, ((1, ()),)), None)

    def test_none_or_six_houses(self):
        for count in (0, 6, 7):
            self.assert_refused((((),), ((1, ()),) * count), None)

    def test_a_missing_side_comes_ahead_of_a_bad_guest(self):
        self.assert_refused((([],), ()), None)
        self.assert_refused((("x",), [(1, (0,))]), None)
        self.assert_refused((((9,),), ((1, ()),) * 6), None)


def with_wish(guest, wish):
    wishes = [(0, 1), (), (1,), (2, 0, 1), (4,)]
    wishes[guest] = wish
    return (tuple(wishes), ((1, (0, 1)),) * 5)


def with_house(house, thing):
    houses = [(1, (0, 1)), (0, ()), (5, (4, 3, 2, 1, 0)), (2, (2,)), (1, (4,))]
    houses[house] = thing
    return (((0,),) * 5, tuple(houses))


class BadGuests(FairCase):
    def assert_wish_refused(self, wish):
        for guest in range(5):
            self.assert_refused(with_wish(guest, wish), ("guest", guest))

    def test_a_wish_of_another_kind(self):
        for wish in (None, 0, 1, *STRANGE, [0, 1]):
            self.assert_wish_refused(wish)

    def test_a_number_twice(self):
        for wish in ((0, 0), (1, 2, 1), (4, 3, 2, 1, 4), (0, 1, 2, 3, 4, 0)):
            self.assert_wish_refused(wish)

    def test_a_number_beyond(self):
        for wish in ((5,), (0, 5), (-1,), (0, 1, -1), (10 ** 30,), (-(10 ** 30),)):
            self.assert_wish_refused(wish)

    def test_the_bound_is_how_many_houses_there_are(self):
        self.assert_refused((((0, 1), (), ()), ((1, ()),)), ("guest", 0))
        self.assert_refused((((0, 1), (2,), ()), ((1, ()),) * 2), ("guest", 1))

    def test_no_number_in_a_numbers_place(self):
        for thing in (None, (), (0,), *STRANGE):
            self.assert_wish_refused((thing,))
            self.assert_wish_refused((2, thing))

    def test_true_and_false_are_no_numbers(self):
        for wish in ((True,), (False,), (1, False), (0, True), (0, False)):
            self.assert_wish_refused(wish)


class BadHouses(FairCase):
    def assert_house_refused(self, thing):
        for house in range(5):
            self.assert_refused(with_house(house, thing), ("house", house))

    def test_a_house_of_another_kind(self):
        for thing in (None, 0, 1, *STRANGE, [1, (0,)], "ab"):
            self.assert_house_refused(thing)

    def test_no_two_things(self):
        for thing in ((), (1,), ((0,),), (1, (0,), ()), (1, 0, 1)):
            self.assert_house_refused(thing)

    def test_the_two_things_turned_about(self):
        self.assert_house_refused(((0,), 1))

    def test_rooms_beyond(self):
        for rooms in (-1, 6, 7, 10 ** 30, -(10 ** 30)):
            self.assert_house_refused((rooms, (0,)))

    def test_rooms_that_are_no_number(self):
        for rooms in (None, (), (1,), *STRANGE):
            self.assert_house_refused((rooms, (0,)))

    def test_guests_of_another_kind(self):
        for listed in (None, 0, 1, *STRANGE, [0, 1]):
            self.assert_house_refused((1, listed))

    def test_a_guest_twice(self):
        for listed in ((0, 0), (1, 2, 1), (4, 3, 2, 1, 4), (0, 1, 2, 3, 4, 0)):
            self.assert_house_refused((1, listed))

    def test_a_guest_beyond(self):
        for listed in ((5,), (0, 5), (-1,), (0, 1, -1), (10 ** 30,)):
            self.assert_house_refused((1, listed))

    def test_the_bound_is_how_many_guests_there_are(self):
        self.assert_refused((((),), ((1, (0, 1)), (1, ()), (1, ()))), ("house", 0))
        self.assert_refused((((),) * 2, ((1, (0, 1)), (1, (2,)), (1, ()))), ("house", 1))

    def test_no_number_in_a_guests_place(self):
        for thing in (None, (), (0,), *STRANGE):
            self.assert_house_refused((1, (thing,)))
            self.assert_house_refused((1, (2, thing)))


class SeveralFaults(FairCase):
    def test_the_first_guest_is_told(self):
        self.assert_refused((((0,), (9,), None, (0, 0)), ((1, ()),)), ("guest", 1))

    def test_the_first_house_is_told(self):
        self.assert_refused((((0,),), ((1, (0,)), (1, ()), (6, ()), None, 4)), ("house", 2))

    def test_guests_come_first(self):
        self.assert_refused((((0,), (0,), (0, 0)), ((6, ()), None)), ("guest", 2))
        self.assert_refused((((), (), (), (), "x"), ("x",)), ("guest", 4))


class WhoFits(unittest.TestCase):
    def test_each_must_take_the_other(self):
        fair = (((0,), (0,), ()), ((1, (0, 2)), (1, (0,))))
        self.assertIs(fits(fair, 0, 0), True)
        self.assertIs(fits(fair, 1, 0), False)
        self.assertIs(fits(fair, 2, 0), False)
        self.assertIs(fits(fair, 0, 1), False)
        self.assertIs(fits(fair, 1, 1), False)

    def test_rooms_do_not_matter(self):
        self.assertIs(fits((((0,),), ((0, (0,)),)), 0, 0), True)

    def test_as_the_fair_says(self):
        for fair in itertools.chain(small_fairs(), larger_fairs(300)):
            for guest, house in itertools.product(range(len(fair[0])), range(len(fair[1]))):
                self.assertIs(fits(fair, guest, house), do_fit(fair, guest, house))

    def test_who_is_not_there_fits_nobody(self):
        fair = (((0,), (0,)), ((1, (0, 1)),))
        for guest, house in ((2, 0), (-1, 0), (0, 1), (0, -1), (5, 5)):
            self.assertIs(fits(fair, guest, house), False)


class TheChoices(unittest.TestCase):
    def test_best_first(self):
        fair = (((2, 0, 3, 1),), ((1, (0,)), (0, (0,)), (1, (0,)), (1, ())))
        self.assertEqual(choices(fair, 0), [2, 0, 1])

    def test_an_empty_wish_and_an_empty_list(self):
        fair = (((), (0,)), ((1, (0,)),))
        self.assertEqual(choices(fair, 0), [])
        self.assertEqual(choices(fair, 1), [])

    def test_as_the_fair_says(self):
        for fair in itertools.chain(small_fairs(), larger_fairs(300)):
            for guest, wish in enumerate(fair[0]):
                self.assertEqual(choices(fair, guest), list(filter(lambda house: do_fit(fair, guest, house), wish)))

    def test_who_is_not_there_has_none(self):
        fair = (((0,), (0,)), ((1, (0, 1)),))
        for guest in (-1, 2, 5):
            self.assertEqual(choices(fair, guest), [])

    def test_a_new_list_each_time(self):
        first = choices(ORDINARY, 0)
        self.assertIs(type(first), list)
        self.assertEqual(first, [1, 0])
        first.clear()
        self.assertEqual(choices(ORDINARY, 0), [1, 0])
        self.assertIsNot(choices(ORDINARY, 0), choices(ORDINARY, 0))


class NothingIsChangedOrKept(FairCase):
    def test_what_is_refused_is_left_as_it_was(self):
        thing = [[[1, 0], [0, 0]], [[1, [0, 1]]]]
        self.assert_refused(thing, None)
        self.assertEqual(thing, [[[1, 0], [0, 0]], [[1, [0, 1]]]])
        wish = [1, 0]
        self.assert_refused(((wish,), ((1, ()),) * 2), ("guest", 0))
        self.assertEqual(wish, [1, 0])

    def test_one_fair_says_nothing_of_the_next(self):
        for _ in range(2):
            self.assert_taken((((1,),), ((1, (0,)),) * 2))
            self.assert_refused((((1,),), ((1, (0,)),)), ("guest", 0))
            self.assertEqual(choices((((1, 0),), ((1, (0,)),) * 2), 0), [1, 0])
            self.assertEqual(choices((((0, 1),), ((1, (0,)),) * 2), 0), [0, 1])


class TheInterface(unittest.TestCase):
    def test_the_arguments(self):
        self.assertEqual(list(inspect.signature(checked).parameters), ["fair"])
        self.assertEqual(list(inspect.signature(fits).parameters), ["fair", "guest", "house"])
        self.assertEqual(list(inspect.signature(choices).parameters), ["fair", "guest"])


if __name__ == "__main__":
    unittest.main()
