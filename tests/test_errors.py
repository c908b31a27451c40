import unittest

from aboveless import errors

BASES = {
    "InvalidError": ValueError,
    "MissingError": LookupError,
    "StateError": RuntimeError,
    "LimitError": ArithmeticError,
}
ATTRIBUTES = {
    "InvalidError": {
        "InvalidName": ["value"], "InvalidLabel": ["value"], "InvalidText": ["problem"], "InvalidRow": ["value"],
        "InvalidKey": ["value"], "InvalidColumns": ["position"], "InvalidRule": ["rule"],
        "InvalidSource": ["value"], "InvalidEntry": ["value"], "InvalidCount": ["value"],
        "InvalidCommand": ["value"], "InvalidLine": ["value"], "InvalidEvent": ["value"], "WrongValues": ["wrong"],
        "WrongSort": ["place"],
    },
    "MissingError": {
        "UnknownSource": ["source"], "UnknownColumn": ["column"], "UnknownKind": ["kind"],
        "UnknownEntry": ["name"], "NoEntry": ["key"], "NoRow": ["key"], "NoMemo": ["view"],
        "UnknownUser": ["name"], "UnknownOffer": ["number"],
    },
    "StateError": {
        "NameTaken": ["name"], "Taken": ["key"], "Waiting": ["key"], "Missing": ["reference", "key"],
        "Broken": ["check", "key"], "Restricted": ["reference", "key"], "InUse": ["kind", "name"],
        "WouldSuspend": ["source", "key"], "ReplayDiffers": ["position", "was", "now"],
        "InTransaction": ["session"], "NoTransaction": ["session"], "SessionEnded": ["session"],
        "OwnOffer": ["number"], "NotAllowed": ["mark"], "OutOfSequence": ["number"], "Behind": ["cut"],
    },
    "LimitError": {"TooMany": ["kind", "limit"], "TooDear": ["limit"]},
}


def each_error():
    for base, leaves in ATTRIBUTES.items():
        for name, attributes in leaves.items():
            yield getattr(errors, base), getattr(errors, name), attributes


class ErrorsTest(unittest.TestCase):
    def test_bases(self):
        for name, python_base in BASES.items():
            base = getattr(errors, name)
            self.assertEqual(base.__bases__, (python_base,))
            self.assertEqual(base.__module__, "aboveless.errors")

    def test_each_class_has_its_base_alone(self):
        for base, leaf, _ in each_error():
            self.assertEqual(leaf.__bases__, (base,), leaf)
            self.assertEqual(leaf.__module__, "aboveless.errors")

    def test_there_are_no_others(self):
        listed = set(BASES) | {leaf.__name__ for _, leaf, _ in each_error()}
        there = {name for name, value in vars(errors).items() if isinstance(value, type)}
        self.assertEqual(listed, there)

    def test_attributes_by_position_and_by_name(self):
        for _, leaf, attributes in each_error():
            told = [[name] for name in attributes]
            for error in (leaf(*told), leaf(**dict(zip(attributes, told)))):
                for name, value in zip(attributes, told):
                    self.assertIs(getattr(error, name), value, leaf)
                self.assertEqual(errors.told_error(error), (leaf.__name__, *told))
                self.assertEqual(errors.told_error(error=error), (leaf.__name__, *told))

    def test_wrong_number_of_attributes(self):
        for _, leaf, attributes in each_error():
            with self.assertRaises(TypeError):
                leaf(*range(len(attributes) + 1))
            with self.assertRaises(TypeError):
                leaf()

    def test_told_keeps_what_it_was_made_with(self):
        wrong = [1, True, None]
        told = errors.told_error(errors.WrongValues(wrong))
        self.assertIs(told[1], wrong)
        self.assertEqual(told, errors.told_error(errors.WrongValues(wrong)))

    def test_raised_and_caught_by_the_bases(self):
        for base, leaf, attributes in each_error():
            with self.assertRaises(base.__bases__[0]):
                raise leaf(*attributes)
            with self.assertRaises(base):
                raise leaf(*attributes)


if __name__ == "__main__":
    unittest.main()
