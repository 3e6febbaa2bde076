import unittest

from helpers import ANY, Case
from rueless import errors

ONE = {
    "at": "BadTrade BadHouse BadRow BadText BadWants BadShape BadRanking BadLooks BadOrder BadMachine BadWord "
          "BadPrices PaperFault Refused",
    "kind": "BadSizes CannotTake",
    "most": "TooGreat",
}
KEYS = {"letter": "NoLetter", "stand": "NoStand", "room": "NoRoom"}


class ErrorsTest(Case):
    def check(self, name, base, attribute):
        made = getattr(errors, name)
        self.assertEqual(made.__bases__, (base,))
        self.assertEqual(made.__name__, name)
        for thing in ANY + [{}, object(), 1.5]:
            self.assertIs(getattr(made(thing), attribute), thing)
            self.assertIs(getattr(made(**{attribute: thing}), attribute), thing)
            with self.assertRaises(made):
                raise made(thing)
        self.assertRaises(TypeError, made)
        self.assertRaises(TypeError, made, 1, 2)

    def test_base(self):
        self.assertEqual(errors.RuelessError.__bases__, (Exception,))

    def test_errors_of_one_thing(self):
        for attribute, names in ONE.items():
            for name in names.split():
                self.check(name, errors.RuelessError, attribute)

    def test_key_errors(self):
        for attribute, name in KEYS.items():
            self.check(name, KeyError, attribute)
            self.assertFalse(issubclass(getattr(errors, name), errors.RuelessError))

    def test_not_rueless(self):
        self.assertEqual(errors.NotRueless.__bases__, (errors.RuelessError,))
        things = [], {}, None
        error = errors.NotRueless(*things)
        self.assertTrue(error.kind is things[0] and error.p is things[1] and error.q is things[2])
        self.assertEqual(errors.NotRueless(q=1, p=2, kind=3).kind, 3)

    def test_things_are_kept_themselves(self):
        thing = [0]
        error = errors.Refused(thing)
        thing.append(1)
        self.assertEqual(error.at, [0, 1])

    def test_there_are_no_others(self):
        told = [name for name in vars(errors) if isinstance(vars(errors)[name], type)]
        names = " ".join(ONE.values()).split() + list(KEYS.values()) + ["RuelessError", "NotRueless"]
        self.assertEqual(sorted(told), sorted(names))


if __name__ == "__main__":
    unittest.main()
