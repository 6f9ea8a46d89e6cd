import unittest

from spacewright import errors
from spacewright.errors import BadText, Ended, NoLine, NoName, NoPart, NoRow, SpaceError

REFUSALS = (BadText, NoName, NoPart, NoRow, NoLine, Ended)


class Errors(unittest.TestCase):
    def test_each_refusal_stands_straight_under_space_error(self):
        self.assertEqual(SpaceError.__bases__, (ValueError,))
        for refusal in REFUSALS:
            self.assertEqual(refusal.__bases__, (SpaceError,))

    def test_none_stands_under_another(self):
        for one in REFUSALS:
            for other in REFUSALS:
                self.assertEqual(issubclass(one, other), one is other)

    def test_no_other_class_is_there(self):
        classes = [thing for thing in vars(errors).values() if isinstance(thing, type)]
        self.assertCountEqual(classes, REFUSALS + (SpaceError,))

    def test_each_keeps_what_it_was_made_of(self):
        self.assertEqual(BadText(600).place, 600)
        self.assertEqual(NoName(0).place, 0)
        self.assertEqual(NoRow(7).row, 7)
        self.assertEqual(Ended(("deep", 4)).end, ("deep", 4))

    def test_two_are_made_of_nothing(self):
        for refusal in (NoPart, NoLine):
            self.assertIsInstance(refusal(), SpaceError)


if __name__ == "__main__":
    unittest.main()
