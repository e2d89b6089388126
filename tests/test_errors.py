"""The errors of thirdback.errors: what they keep and which classes they belong to (point 4)."""

import unittest

from common import ODD_VALUES
from thirdback import errors

BASES = {"WrongValue": ValueError, "WrongName": LookupError, "NoAnswer": ArithmeticError}

LISTED = {
    ("WrongValue", "given"): (
        "InvalidName", "InvalidText", "InvalidFlag", "InvalidNumber", "InvalidTurns", "InvalidTriple",
        "InvalidIndex", "InvalidWish", "NotAKind", "NotAFormula", "NotABeginning", "NotAScript",
        "NotAStore", "NotACell", "NotLengths", "OtherKind"),
    ("WrongValue", "index"): (
        "InvalidFacts", "InvalidFormulas", "InvalidTriples", "InvalidContents", "InvalidNames",
        "InvalidRows", "InvalidBoxes", "InvalidLost", "InvalidChanges", "Clash"),
    ("WrongName", "given"): ("UnknownName",),
    ("WrongName", "index"): ("InUse",),
    ("NoAnswer", "limit"): ("TooMany",),
    ("NoAnswer", "index"): ("Lacking", "Broken"),
    ("NoAnswer", "given"): ("NotWhole",),
    ("NoAnswer", None): ("NothingToUndo",),
}

ROWS = [(name, base, attribute) for (base, attribute), names in LISTED.items() for name in names]
OWN = {name: value for name, value in vars(errors).items() if isinstance(value, type)}


class ErrorsTest(unittest.TestCase):
    def test_all_classes_are_there_and_defined_in_this_file(self):
        self.assertEqual(33, len(ROWS))
        for name in [row[0] for row in ROWS] + list(BASES):
            with self.subTest(name):
                self.assertEqual("thirdback.errors", getattr(errors, name).__module__)

    def test_made_by_position_and_by_name_and_kept_as_passed(self):
        for name, _, attribute in ROWS:
            if attribute is None:
                continue
            made = getattr(errors, name)
            for value in ODD_VALUES + ((1, [2, {"a": (3,)}]), "x" * 4000, ValueError("x")):
                with self.subTest(name, value=value):
                    self.assertIs(value, getattr(made(value), attribute))
                    self.assertIs(value, getattr(made(**{attribute: value}), attribute))
                    self.assertEqual([attribute], list(vars(made(value))))

    def test_nothing_to_undo_keeps_nothing(self):
        error = errors.NothingToUndo()
        self.assertEqual({}, vars(error))
        for attribute in ("given", "index", "limit"):
            self.assertFalse(hasattr(error, attribute))

    def test_what_is_passed_is_not_changed(self):
        for name, _, attribute in ROWS:
            if attribute is not None:
                value = [1, {"a": [2]}]
                getattr(errors, name)(value)
                self.assertEqual([1, {"a": [2]}], value)

    def test_each_belongs_to_its_class_and_its_base_alone(self):
        for name, base, attribute in ROWS:
            made = getattr(errors, name)
            error = made() if attribute is None else made(0)
            with self.subTest(name):
                held = [other for other in OWN if isinstance(error, OWN[other])]
                self.assertEqual(sorted([name, base]), sorted(held))

    def test_each_belongs_to_the_listed_class_of_python(self):
        for name, base, attribute in ROWS:
            made = getattr(errors, name)
            error = made() if attribute is None else made(0)
            with self.subTest(name):
                held = [above for above in BASES.values() if isinstance(error, above)]
                self.assertEqual([BASES[base]], held)

    def test_base_classes(self):
        for base, above in BASES.items():
            with self.subTest(base):
                self.assertEqual((above,), getattr(errors, base).__bases__)

    def test_they_can_be_raised_and_caught_by_each_of_their_classes(self):
        for name, base, attribute in ROWS:
            made = getattr(errors, name)
            for caught in (made, getattr(errors, base), BASES[base]):
                with self.subTest(name, caught=caught), self.assertRaises(caught):
                    raise made() if attribute is None else made(0)

    def test_errors_equal_themselves_alone(self):
        for name, _, attribute in ROWS:
            if attribute is not None:
                made = getattr(errors, name)
                self.assertTrue(made(1) != made(1))


if __name__ == "__main__":
    unittest.main()
