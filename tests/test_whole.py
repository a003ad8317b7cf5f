"""What the document promises over the whole program."""

import importlib
import unittest

from lodgefair.bettering import better, bettered, picked
from lodgefair.errors import BadFair, BadLodging, BadMarket, BadOrder, BadText, FairError
from lodgefair.fairs import checked, choices
from lodgefair.lodgings import checked_lodging, is_steady, spoilers
from lodgefair.steady import all_steady, asked
from lodgefair.texts import read
from lodgefair.trades import breakers, checked_market, fair_deal
from tests.samples import STRANGE

FAIR = (((1, 0), (0, 1)), ((1, (0, 1)), (1, (1, 0))))
MARKET = ((1, 0), (0, 1))

INTERFACE = {
    "errors": ("FairError", "BadLodging", "BadOrder", "BadMarket", "BadText", "BadFair"),
    "fairs": ("checked", "fits", "choices"),
    "lodgings": ("checked_lodging", "spoilers", "is_steady", "no_worse"),
    "steady": ("best", "worst", "asked", "all_steady", "higher", "lower", "middle"),
    "bettering": ("better", "bettered", "picked"),
    "trades": ("checked_market", "fair_deal", "breakers"),
    "texts": ("shown", "read"),
}

# Each function with what stands ahead of the thing that it may refuse, and the class it refuses with.
REFUSING = (
    (checked, (), BadFair),
    (checked_lodging, (FAIR,), BadLodging),
    (spoilers, (FAIR,), BadLodging),
    (is_steady, (FAIR,), BadLodging),
    (asked, (FAIR,), BadOrder),
    (better, (FAIR,), BadLodging),
    (bettered, (FAIR,), BadLodging),
    (picked, (FAIR,), BadOrder),
    (checked_market, (), BadMarket),
    (fair_deal, (), BadMarket),
    (breakers, (MARKET,), BadLodging),
    (read, (), BadText),
)


class LooksLikeNothing:
    """A thing of a kind that the program can't know, and that nothing can be asked of."""

    __hash__ = None

    def __bool__(self):
        raise RuntimeError("asked whether it is true")

    def __len__(self):
        raise RuntimeError("asked how long it is")

    def __iter__(self):
        raise RuntimeError("walked")


class TheRefusals(unittest.TestCase):
    def assert_refused(self, function, ahead, thing, refusal):
        with self.assertRaises(FairError, msg=(function, thing)) as caught:
            function(*ahead, thing)
        self.assertIs(type(caught.exception), refusal, (function, thing))

    def test_any_kind_of_thing_is_refused_with_its_own_class(self):
        for function, ahead, refusal in REFUSING:
            for thing in (None, 0, 1, -1, (), ((),), (None,), *STRANGE, LooksLikeNothing()):
                self.assert_refused(function, ahead, thing, refusal)

    def test_any_kind_of_thing_inside(self):
        for function, ahead, refusal in REFUSING:
            for inside in (*STRANGE, LooksLikeNothing()):
                for thing in ((inside,), (inside, inside), [inside], [inside, inside], (0, inside), [0, inside]):
                    self.assert_refused(function, ahead, thing, refusal)

    def test_breakers_refuses_a_market_too_and_ahead_of_the_deal(self):
        for thing in (None, 0, (), *STRANGE, LooksLikeNothing()):
            for deal in ((1, 0), (0, 0), None):
                with self.assertRaises(BadMarket):
                    breakers(thing, deal)


class TheLists(unittest.TestCase):
    def test_new_ones_each_time(self):
        calls = (
            lambda: choices(FAIR, 0), lambda: spoilers(FAIR, (None, None)), lambda: asked(FAIR, [1, 0]),
            lambda: all_steady(FAIR),
        )
        for call in calls:
            first = call()
            before = list(first)
            self.assertTrue(before)
            self.assertIsNot(call(), first)
            first.append("more")
            first.pop(0)
            self.assertEqual(call(), before)


class TheInterface(unittest.TestCase):
    def test_every_name_is_there(self):
        for module, names in INTERFACE.items():
            found = importlib.import_module(f"lodgefair.{module}")
            for name in names:
                self.assertTrue(callable(getattr(found, name)), (module, name))
                self.assertEqual(getattr(found, name).__module__, f"lodgefair.{module}")


if __name__ == "__main__":
    unittest.main()
