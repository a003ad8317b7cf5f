import inspect
import unittest

from lodgefair import errors
from lodgefair.errors import BadFair, BadLodging, BadMarket, BadOrder, BadText, FairError

REFUSALS = (BadFair, BadLodging, BadMarket, BadOrder, BadText)


class TheErrorClasses(unittest.TestCase):
    def test_any_refusal_is_a_fair_error_and_a_value_error(self):
        self.assertEqual(FairError.__bases__, (ValueError,))
        for refusal in REFUSALS:
            self.assertTrue(issubclass(refusal, FairError), refusal)

    def test_none_stands_under_another(self):
        for one in REFUSALS:
            for other in REFUSALS:
                if one is not other:
                    self.assertFalse(issubclass(one, other), (one, other))

    def test_all_stand_in_errors(self):
        here = {thing for _, thing in inspect.getmembers(errors, inspect.isclass) if thing.__module__ == errors.__name__}
        self.assertEqual(here, {FairError, *REFUSALS})

    def test_bad_fair_has_its_place(self):
        for at in (None, ("guest", 0), ("house", 4)):
            self.assertEqual(BadFair(at).at, at)
            self.assertEqual(BadFair(at=at).at, at)

    def test_bad_fair_asks_for_its_place(self):
        with self.assertRaises(TypeError):
            BadFair()

    def test_the_others_can_be_made_and_raised(self):
        for refusal in (FairError, BadLodging, BadMarket, BadOrder, BadText):
            with self.assertRaises(FairError):
                raise refusal("no")


if __name__ == "__main__":
    unittest.main()
