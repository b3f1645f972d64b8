"""Promises 2 and 6: each error belongs to its own class and its base classes alone."""

from tallyplans import errors
from tests.helpers import TallyTest
from tests.samples import NO_TUPLES, SIXTY

BASES = {"TallyError": ValueError, "StateError": LookupError, "SizeError": ArithmeticError}

FIELDS = {
    "InvalidCapacity": ("TallyError", "capacity"),
    "InvalidName": ("TallyError", "name"),
    "InvalidTimes": ("TallyError", "times"),
    "InvalidCounts": ("TallyError", "index"),
    "InvalidSummary": ("TallyError", "index"),
    "InvalidOrder": ("TallyError", "index"),
    "InvalidPlan": ("TallyError", "index"),
    "InvalidText": ("TallyError", "text"),
    "InvalidSize": ("TallyError", "size"),
    "InvalidNumber": ("TallyError", "number"),
    "InvalidSlots": ("TallyError", "slots"),
    "InvalidIndex": ("TallyError", "index"),
    "InvalidAction": ("TallyError", "index"),
    "InvalidLine": ("TallyError", "line"),
    "NotASummary": ("TallyError", "value"),
    "CapacitiesDiffer": ("StateError", "capacity"),
    "Busy": ("StateError", None),
    "NothingToUndo": ("StateError", None),
    "TooManyNames": ("SizeError", "found"),
    "TooManyActions": ("SizeError", "found"),
}


def error_class(name):
    return getattr(errors, name)


class ErrorsTest(TallyTest):
    def created(self, name):
        field = FIELDS[name][1]
        return error_class(name)() if field is None else error_class(name)(None)

    def test_no_other_classes(self):
        found = [name for name, thing in vars(errors).items() if isinstance(thing, type)]
        self.assertEqual(sorted(found), sorted(list(BASES) + list(FIELDS)))

    def test_own_class_and_bases_alone(self):
        for name, (base, _) in FIELDS.items():
            error = self.created(name)
            classes = {other for other in list(BASES) + list(FIELDS) if isinstance(error, error_class(other))}
            self.assertEqual(classes, {name, base})

    def test_bases_of_python(self):
        for base, python in BASES.items():
            self.assertEqual(error_class(base).__bases__, (python,))
        for name, (base, _) in FIELDS.items():
            error = self.created(name)
            for other in BASES.values():
                self.assertEqual(isinstance(error, other), other is BASES[base])

    def test_fields_by_position_and_by_name(self):
        for name, (_, field) in FIELDS.items():
            if field is None:
                self.assertEqual(vars(error_class(name)()), {})
                continue
            for value in NO_TUPLES + [(), (1, 2), 10 ** 5000]:
                for error in (error_class(name)(value), error_class(name)(**{field: value})):
                    self.assertEqual(list(vars(error)), [field])
                    self.assertIs(getattr(error, field), value)

    def test_messages_of_any_field(self):
        for name, (_, field) in FIELDS.items():
            if field is not None:
                self.assertIsInstance(str(error_class(name)(10 ** 5000)), str)
                self.assertNotEqual(str(error_class(name)(SIXTY)), "")

    def test_raised_and_caught_by_the_base(self):
        for name, (base, _) in FIELDS.items():
            with self.assertRaises(error_class(base)):
                raise self.created(name)
