"""What each refusal is made of and is a kind of."""

import unittest

from letterbench import errors
from letterbench.errors import BenchError

MADE_OF_VALUES = {
    "NoGrammar": ("kind", "field"),
    "NoWorth": ("path",),
    "Barred": ("path",),
    "NoRows": ("number",),
    "NoPiece": ("number",),
    "NoEnd": ("number",),
    "NoCatch": ("number",),
    "Away": ("number", "what"),
    "NoMake": ("number",),
    "NoSetting": ("part",),
    "NoLetter": ("number",),
    "NoText": ("row",),
}
MADE_OF_TEXT = ("NoFilter", "NoRelation", "NoLine", "NoNumber")
BESIDE = {
    "NoKind": (KeyError, ("name",)),
    "NoName": (KeyError, ("name",)),
    "NoPath": (IndexError, ("path",)),
    "TooMany": (OverflowError, ("many",)),
    "Bare": (LookupError, ()),
    "Shut": (RuntimeError, ()),
}
ALL = [*MADE_OF_VALUES, *MADE_OF_TEXT, *BESIDE]


def named(name):
    return getattr(errors, name)


class Errors(unittest.TestCase):
    def test_bench_error_is_a_value_error(self):
        self.assertEqual(BenchError.__bases__, (ValueError,))

    def test_each_is_defined_here(self):
        for name in ["BenchError", *ALL]:
            self.assertEqual(named(name).__module__, "letterbench.errors", name)

    def test_which_class_each_stands_under(self):
        for name in [*MADE_OF_VALUES, *MADE_OF_TEXT]:
            self.assertEqual(named(name).__bases__, (BenchError,), name)
        for name, (base, _) in BESIDE.items():
            self.assertEqual(named(name).__bases__, (base,), name)

    def test_none_stands_under_another_one(self):
        for one in ALL:
            for other in ALL:
                self.assertEqual(issubclass(named(one), named(other)), one == other, (one, other))

    def test_fields_are_the_values_in_order(self):
        fields = dict(MADE_OF_VALUES)
        fields.update({name: told for name, (_, told) in BESIDE.items() if told})
        for name, told in fields.items():
            values = [["as", place, "it is"] for place in range(len(told))]
            refusal = named(name)(*values)
            for field, value in zip(told, values):
                self.assertIs(getattr(refusal, field), value, name)

    def test_fields_by_name(self):
        refusal = errors.NoGrammar(field=3, kind=None)
        self.assertEqual((refusal.kind, refusal.field), (None, 3))
        refusal = errors.Away(what="fields", number=2)
        self.assertEqual((refusal.number, refusal.what), (2, "fields"))

    def test_made_of_a_text(self):
        for name in [*MADE_OF_TEXT, "Bare", "Shut"]:
            self.assertEqual(str(named(name)("a text")), "a text", name)

    def test_fields_may_be_of_any_kind(self):
        for value in (None, (), ("a", 0), [], {}, 7, "text"):
            self.assertEqual(errors.NoPath(value).path, value)
            self.assertEqual(errors.NoKind(value).name, value)
            self.assertEqual(errors.NoSetting(value).part, value)


if __name__ == "__main__":
    unittest.main()
