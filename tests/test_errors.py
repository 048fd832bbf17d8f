"""Point 2 and the row lookdone/errors.py of the interface."""

import unittest

from lookdone import errors
from lookdone.errors import StoreError
from tests.samples import OTHER_THINGS, nested

WITH_ARGUMENT = {
    "BadText": "line", "Refused": "number", "NotKept": "wanted", "NoSlot": "slot", "Conflict": "number",
    "NoSession": "number",
}

WITHOUT_ARGUMENT = ("TooLarge", "Closed", "BadRow")

NAMES = (*WITH_ARGUMENT, *WITHOUT_ARGUMENT)

VALUES = (*OTHER_THINGS, -10 ** 40, "x" * 4000, "a\nb", {"a": [1]}, [None], (0, "key"), nested({}, 30))


class ErrorsTest(unittest.TestCase):

    def test_attribute_is_the_argument(self):
        for name, attribute in WITH_ARGUMENT.items():
            for value in VALUES:
                with self.subTest(name=name, value=value):
                    error = getattr(errors, name)(value)
                    self.assertIs(getattr(error, attribute), value)

    def test_argument_may_be_nested_deeper_than_calls_can_go(self):
        value = nested((), 100000)
        for name, attribute in WITH_ARGUMENT.items():
            error = getattr(errors, name)(value)
            self.assertIs(getattr(error, attribute), value)

    def test_the_attributes_of_two_errors_are_their_own(self):
        for name, attribute in WITH_ARGUMENT.items():
            one, other = getattr(errors, name)(1), getattr(errors, name)(2)
            self.assertEqual((getattr(one, attribute), getattr(other, attribute)), (1, 2))

    def test_errors_without_an_argument(self):
        for name in WITHOUT_ARGUMENT:
            self.assertIsInstance(getattr(errors, name)(), StoreError)

    def test_each_can_be_raised_and_caught(self):
        for name in NAMES:
            error = getattr(errors, name)
            arguments = (3,) if name in WITH_ARGUMENT else ()
            for caught in (error, StoreError, ValueError):
                with self.assertRaises(caught) as told:
                    raise error(*arguments)
                self.assertIs(told.exception.__class__, error)

    def test_subclasses(self):
        self.assertEqual(StoreError.__mro__, (StoreError, ValueError, Exception, BaseException, object))
        for name in NAMES:
            error = getattr(errors, name)
            self.assertEqual(error.__mro__, (error, StoreError, ValueError, Exception, BaseException, object))

    def test_no_error_is_another_one(self):
        classes = [getattr(errors, name) for name in NAMES]
        self.assertEqual(len(set(classes)), 9)
        for one in classes:
            for other in classes:
                self.assertEqual(issubclass(one, other), one is other)

    def test_store_error_itself(self):
        self.assertIsInstance(StoreError("why"), ValueError)


if __name__ == "__main__":
    unittest.main()
