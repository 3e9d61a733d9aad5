import unittest

from upleaf import errors

CARD_ERRORS = [
    "BadSize", "BadStair", "BadNumber", "NoColumn", "NoCell", "NoCorner", "NoEdge", "NotJoined", "NotSlit",
    "Unlike", "Wide", "BadView", "BadDrawing", "NoPatch", "TooMany", "BadName", "BadText",
]
ROOM_ERRORS = ["NoCard", "NoPlan", "Taken", "SameCard", "Full", "NothingLeft"]
FIELDS = {
    "BadStair": "at", "BadView": "row", "BadDrawing": "row", "BadText": "row",
    "NoCard": "name", "NoPlan": "name", "Taken": "name",
}


class Families(unittest.TestCase):
    def test_the_two_families(self):
        self.assertEqual(errors.CardError.__bases__, (ValueError,))
        self.assertEqual(errors.RoomError.__bases__, (LookupError,))
        self.assertFalse(issubclass(errors.RoomError, ValueError))
        self.assertFalse(issubclass(errors.CardError, LookupError))

    def test_each_stands_straight_under_its_family(self):
        for name in CARD_ERRORS:
            self.assertEqual(getattr(errors, name).__bases__, (errors.CardError,), name)
        for name in ROOM_ERRORS:
            self.assertEqual(getattr(errors, name).__bases__, (errors.RoomError,), name)

    def test_no_error_is_missing_or_too_many(self):
        told = sorted(name for name, value in vars(errors).items() if isinstance(value, type))
        self.assertEqual(told, sorted(CARD_ERRORS + ROOM_ERRORS + ["CardError", "RoomError"]))

    def test_each_is_caught_by_its_family(self):
        for name in CARD_ERRORS + ROOM_ERRORS:
            family = errors.CardError if name in CARD_ERRORS else errors.RoomError
            made = getattr(errors, name)("ox") if name in FIELDS else getattr(errors, name)()
            with self.assertRaises(family):
                raise made


class Fields(unittest.TestCase):
    def test_each_field_is_what_it_was_made_with(self):
        for name, field in FIELDS.items():
            made = getattr(errors, name)
            worth = "ox" if field == "name" else 7
            self.assertEqual(getattr(made(worth), field), worth, name)
            self.assertEqual(getattr(made(**{field: worth}), field), worth, name)
            self.assertEqual(vars(made(worth)), {field: worth}, name)

    def test_bad_stair_and_bad_text_have_nought_by_themselves(self):
        self.assertEqual(errors.BadStair().at, 0)
        self.assertEqual(errors.BadText().row, 0)

    def test_the_others_with_a_field_are_made_with_it(self):
        for name in FIELDS:
            if name not in ("BadStair", "BadText"):
                with self.assertRaises(TypeError):
                    getattr(errors, name)()

    def test_the_others_have_no_field(self):
        for name in CARD_ERRORS + ROOM_ERRORS:
            if name not in FIELDS:
                self.assertEqual(vars(getattr(errors, name)()), {}, name)


if __name__ == "__main__":
    unittest.main()
