import unittest

from twowaypen.errors import (
    BadRow, BadRule, Copied, NoName, NoRow, NoText, NoWayBack, PenError, TooMany,
)

FIELDS = {
    BadRule: ("state", "sign"),
    BadRow: ("state", "letter"),
    Copied: ("state", "letter", "box"),
    NoText: ("line",),
    TooMany: ("most",),
    NoWayBack: ("letter", "state"),
    NoName: (),
    NoRow: (),
}
NUMBERS = (0, 1, 7, 9999, 10 ** 30)
TEXTS = ("", "<", ">", "a", "0")


def values_for(names, turn):
    """Unlike values for the fields, so that two that change places are seen."""
    values = []
    for at, name in enumerate(names):
        pool = TEXTS if name in ("sign", "letter") else NUMBERS
        values.append(pool[(turn + at) % len(pool)])
    return values


class Errors(unittest.TestCase):
    def test_pen_error_is_a_value_error(self):
        self.assertTrue(issubclass(PenError, ValueError))
        self.assertEqual(len(FIELDS), 8)

    def test_each_stands_right_under_pen_error(self):
        for error in FIELDS:
            self.assertEqual(error.__bases__, (PenError,))

    def test_none_is_one_of_the_others(self):
        for error, names in FIELDS.items():
            made = error(*values_for(names, 0))
            self.assertIsInstance(made, PenError)
            self.assertIsInstance(made, ValueError)
            for other in FIELDS:
                self.assertEqual(isinstance(made, other), other is error, (error, other))

    def test_fields_are_kept_as_they_were(self):
        for error, names in FIELDS.items():
            for turn in range(5):
                values = values_for(names, turn)
                made = error(*values)
                self.assertEqual([getattr(made, name) for name in names], values, error)
                named = error(**dict(zip(names, values)))
                self.assertEqual([getattr(named, name) for name in names], values, error)

    def test_raised_it_is_taken_by_each_of_its_names(self):
        for error, names in FIELDS.items():
            for taken in (error, PenError, ValueError):
                with self.assertRaises(taken):
                    raise error(*values_for(names, 1))


if __name__ == "__main__":
    unittest.main()
