"""The errors: each class, its attributes, what it is derived from."""

from letdays import errors
from tests.support import Case, ODD_VALUES

BASES = {"DaysError": ValueError, "MissingError": LookupError, "StateError": RuntimeError,
         "LimitError": ArithmeticError}

VALUE, POSITION = ["value"], ["position"]

CLASSES = {
    "DaysError": {
        "InvalidName": VALUE, "InvalidPoint": VALUE, "InvalidNumber": VALUE, "InvalidMoment": VALUE,
        "InvalidDates": VALUE, "InvalidDeal": VALUE, "InvalidCell": VALUE, "InvalidCalendar": VALUE,
        "InvalidPaper": VALUE, "InvalidRights": VALUE, "InvalidWindow": VALUE, "InvalidClaim": VALUE,
        "InvalidCommand": VALUE, "InvalidMoments": POSITION, "InvalidClauses": POSITION,
        "InvalidNames": POSITION, "InvalidDeals": POSITION, "InvalidStretches": POSITION,
        "InvalidShowings": POSITION, "InvalidLots": POSITION, "InvalidText": ["line"]},
    "MissingError": {"UnknownDeal": VALUE, "UnknownMoment": VALUE, "UnknownHouse": VALUE, "UnknownLand": VALUE},
    "StateError": {
        "NoDates": [], "NameTaken": VALUE, "SameDeal": VALUE, "OtherMoments": ["one", "other"],
        "NotSafe": ["one", "other"], "NotTrue": [], "NothingToUndo": [], "CommandFailed": POSITION},
    "LimitError": {"TooMany": ["what", "limit"]},
}


def all_classes():
    """The tuples (class, attributes) of all errors with a constructor told by the document."""
    return [(getattr(errors, name), attributes) for table in CLASSES.values() for name, attributes in table.items()]


class Errors(Case):
    def test_the_four_kinds(self):
        for name, base in BASES.items():
            self.assertEqual(getattr(errors, name).__bases__, (base,))
            self.assertEqual(getattr(errors, name).__module__, "letdays.errors")

    def test_direct_superclasses(self):
        for kind, table in CLASSES.items():
            for name in table:
                self.assertEqual(getattr(errors, name).__bases__, (getattr(errors, kind),), name)
                self.assertEqual(getattr(errors, name).__module__, "letdays.errors")

    def test_names(self):
        for error, _ in all_classes():
            self.assertIs(getattr(errors, error.__name__), error)

    def test_made_by_position_with_any_values(self):
        for error, attributes in all_classes():
            for value in ODD_VALUES:
                values = [value, (value, "x")][:len(attributes)]
                made = error(*values)
                self.assertEqual([getattr(made, name) for name in attributes], values)

    def test_made_by_name_with_any_values(self):
        for error, attributes in all_classes():
            for value in ODD_VALUES:
                table = dict(zip(attributes, [value, [value]]))
                made = error(**table)
                self.assertEqual({name: getattr(made, name) for name in attributes}, table)

    def test_two_attributes_are_not_mixed_up(self):
        for error in (errors.OtherMoments, errors.NotSafe):
            made = error(other=["b"], one=["a"])
            self.assertEqual((made.one, made.other), (["a"], ["b"]))
        made = errors.TooMany(limit=8, what="moments")
        self.assertEqual((made.what, made.limit), ("moments", 8))

    def test_raised_and_caught_by_each_superclass(self):
        for kind, table in CLASSES.items():
            for name, attributes in table.items():
                for base in (getattr(errors, name), getattr(errors, kind), BASES[kind], Exception):
                    with self.assertRaises(base):
                        raise getattr(errors, name)(*[None for _ in attributes])

    def test_attributes_are_those_of_the_object(self):
        one, other = errors.InvalidName("one"), errors.InvalidName("other")
        self.assertEqual((one.value, other.value), ("one", "other"))
