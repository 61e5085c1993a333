"""Point [4]: the refusals, their places and their fields."""

import unittest

from placedworks import errors

TEXT_ERRORS = ["NoText", "NoDeed", "NoBack", "NoLine"]
FIELDS = {
    "NoRow": ["at"],
    "BadName": ["at"],
    "BadBerths": ["at"],
    "BadAsked": ["at"],
    "BadShare": ["at"],
    "BadRow": ["at"],
    "Unknown": ["name"],
    "Known": ["name"],
    "Used": ["name"],
    "TooMany": ["most"],
    "NoRoom": ["first", "demanded", "room"],
    "Early": ["until"],
}
THINGS = [
    0, -1, 10 ** 5000, True, None, "", "web", "two\nrows", b"a", 1.5, [], [1, [2]], (), ("a",), {}, {"a": [1]},
    {1, 2}, object(), len, ValueError("x"),
]


class TestPlaces(unittest.TestCase):
    def test_place_error_stands_under_value_error(self):
        self.assertEqual(errors.PlaceError.__bases__, (ValueError,))

    def test_all_sixteen_stand_right_under_place_error(self):
        names = TEXT_ERRORS + list(FIELDS)
        self.assertEqual(len(names), 16)
        for name in names:
            with self.subTest(name):
                self.assertEqual(getattr(errors, name).__bases__, (errors.PlaceError,))

    def test_none_is_taken_for_another_one(self):
        names = TEXT_ERRORS + list(FIELDS)
        for name in names:
            for other in names:
                under = issubclass(getattr(errors, name), getattr(errors, other))
                self.assertEqual(under, name == other, (name, other))


class TestFields(unittest.TestCase):
    def test_those_made_with_a_text(self):
        for name in TEXT_ERRORS:
            for thing in ["", "some words", "a\nb"]:
                error = getattr(errors, name)(thing)
                self.assertIsInstance(error, ValueError)

    def test_those_made_with_a_text_take_any_thing(self):
        for name in TEXT_ERRORS:
            for thing in THINGS:
                with self.assertRaises(getattr(errors, name)):
                    raise getattr(errors, name)(thing)

    def test_fields_are_what_the_error_was_made_with(self):
        for name, fields in FIELDS.items():
            for thing in THINGS:
                error = getattr(errors, name)(*[thing for field in fields])
                for field in fields:
                    self.assertIs(getattr(error, field), thing, (name, field))

    def test_no_room_keeps_its_three_apart(self):
        error = errors.NoRoom(2, 7, 5)
        self.assertEqual((error.first, error.demanded, error.room), (2, 7, 5))

    def test_fields_stay_when_raised(self):
        for name, fields in FIELDS.items():
            things = list(range(3, 3 + len(fields)))
            with self.assertRaises(errors.PlaceError) as caught:
                raise getattr(errors, name)(*things)
            self.assertEqual([getattr(caught.exception, field) for field in fields], things)

    def test_what_it_was_made_of_stays_as_it_was(self):
        thing = [1, [2, 3]]
        error = errors.Unknown(thing)
        self.assertEqual(thing, [1, [2, 3]])
        self.assertEqual(error.name, [1, [2, 3]])


if __name__ == "__main__":
    unittest.main()
