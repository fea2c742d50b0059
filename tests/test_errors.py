"""The errors: what they derive from, and what they keep."""

from twofarplayers import errors
from tests.cases import Case
from tests.samples import EVERY

NAMES = (
    "BadLaw BadWord BadLoss BadNumber TooLong BadPlace NotOne TooFew BadWishes Barred BadBarred BadPair BadStates BadFate "
    "NotGood BadWorths BadDistance BadEnds BadTask NoPair TooMany NothingToUndo NothingToRedo NoTrial BadJournal BadWords"
).split()


class Errors(Case):
    def test_all_are_there_and_derive_directly(self):
        self.assertEqual(len(NAMES), 26)
        self.assertEqual(errors.PlayError.__bases__, (ValueError,))
        for name in NAMES:
            found = getattr(errors, name)
            self.assertEqual((found.__bases__, found.__name__), ((errors.PlayError,), name))

    def test_each_keeps_any_value(self):
        for name in ["PlayError"] + NAMES:
            for value in (0, -1, 10 ** 12, True, False, None, "", "text", (), ("", ""), (1, (None, [2])), [], [1], {}, EVERY):
                kept = getattr(errors, name)(value)
                self.assertIs(kept.value, value)
                with self.assertRaises(errors.PlayError):
                    raise kept

    def test_each_takes_one_argument(self):
        for name in ["PlayError"] + NAMES:
            for told in ((), (1, 2)):
                with self.assertRaises(TypeError):
                    getattr(errors, name)(*told)
