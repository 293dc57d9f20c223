"""The errors: their bases and their fields."""

from spanalike import errors
from spanalike.errors import BeatError, Missing
from tests.tools import Case

WITH_PART = ("BadRow", "BadStrip", "BadPiece", "BadSaying", "BadBook", "BadNumber", "BadPaper", "BadDesk", "Misfit")
BELOW_MISSING = ("NoBeat", "NoDivisor", "NoSaying", "NoName")
FIELDS = {
    "Missing": ("value",), "Twice": ("value",), "Impossible": ("paper",), "TooMany": ("what", "most"),
    "Nothing": (), "BadText": ("line", "item"), "BadLine": ("line", "error"),
}


def all_fields():
    told = {name: ("part",) for name in WITH_PART}
    told.update({name: ("value",) for name in BELOW_MISSING})
    told.update(FIELDS)
    return told


class TestErrors(Case):
    def test_the_base_is_below_value_error(self):
        self.assertEqual(BeatError.__bases__, (ValueError,))

    def test_bases(self):
        for name in all_fields():
            base = Missing if name in BELOW_MISSING else BeatError
            self.assertEqual(getattr(errors, name).__bases__, (base,), name)

    def test_each_is_defined_here(self):
        for name in all_fields():
            self.assertEqual(getattr(errors, name).__module__, "spanalike.errors")

    def test_fields_by_place_and_by_name(self):
        values = ["beats", None, [1, [2]], True, 10 ** 3999, BadLookingValue()]
        for name, fields in all_fields().items():
            for first in values:
                told = ([first] + values[:1])[:len(fields)]
                by_place = getattr(errors, name)(*told)
                by_name = getattr(errors, name)(**dict(zip(fields, told)))
                for error in (by_place, by_name):
                    for field, value in zip(fields, told):
                        self.assertIs(getattr(error, field), value)

    def test_they_are_caught_as_value_errors(self):
        with self.assertRaises(ValueError):
            raise errors.TooMany("beats", 14)
        with self.assertRaises(Missing):
            raise errors.NoBeat(9)

    def test_the_wording_names_the_fields(self):
        self.assertIn("beats", str(errors.TooMany("beats", 14)))
        self.assertIn("14", str(errors.TooMany("beats", 14)))


class BadLookingValue:
    def __repr__(self):
        raise RuntimeError("not to be shown")

    __str__ = __repr__
