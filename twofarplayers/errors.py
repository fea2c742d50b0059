"""The errors that the program raises; each keeps what it was created with."""


class PlayError(ValueError):
    """What all errors of the program derive from."""

    def __init__(self, value):
        self.value = value


class BadLaw(PlayError):
    """A text that is no law: the number of the line that cannot stand."""


class BadWord(PlayError):
    """What is no word."""


class BadLoss(PlayError):
    """What is no loss."""


class BadNumber(PlayError):
    """What is no integer of those that may stand there."""


class TooLong(PlayError):
    """A loss whose head would be too long: how many letters it would have."""


class BadPlace(PlayError):
    """What is no place in the row of the words of so many fates."""


class NotOne(PlayError):
    """Two words that do not have the same number of fates."""


class TooFew(PlayError):
    """A number of rounds that is not enough: the least that is, or None."""


class BadWishes(PlayError):
    """What are no wishes."""


class Barred(PlayError):
    """A word with which no loss begins that is let."""


class BadBarred(PlayError):
    """What are no barred ones that show a way of playing."""


class BadPair(PlayError):
    """A text that is no pair: the number of the line that cannot stand."""


class BadStates(PlayError):
    """What are no states of both machines of a pair."""


class BadFate(PlayError):
    """What is no fate."""


class NotGood(PlayError):
    """A pair that is not good."""


class BadWorths(PlayError):
    """What are no worths."""


class BadDistance(PlayError):
    """What is no distance above 0."""


class BadEnds(PlayError):
    """What is no way of ending."""


class BadTask(PlayError):
    """A text that is no task: the number of the line that cannot stand."""


class NoPair(PlayError):
    """Wishes that cannot be together."""


class TooMany(PlayError):
    """States of a told law that would be too many: how many there would be."""


class NothingToUndo(PlayError):
    """No deed stands that could be taken back."""


class NothingToRedo(PlayError):
    """No deed was taken back that could be done again."""


class NoTrial(PlayError):
    """No block of a trial is entered."""


class BadJournal(PlayError):
    """A text that is no journal: the number of the line that cannot stand."""


class BadWords(PlayError):
    """A line that a desk does not know."""
