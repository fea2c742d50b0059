"""A bench: a law under hands, with deeds that can be undone, and trials of them."""

from twofarplayers.errors import NothingToRedo, NothingToUndo, NoTrial
from twofarplayers.laws import Law
from twofarplayers.lawlots import barring, both, either, turned
from twofarplayers.verdicts import can_agree


class Trial:
    """A block behind which its bench is as it was, unless it is to be kept and no error leaves it."""

    def __init__(self, bench):
        self.bench = bench
        # None, not False: where objects can be compared or measured, the end of a block only asks what is None.
        self.kept = None

    def __enter__(self):
        bench = self.bench
        self.outer = bench.block
        self.past = bench.past
        self.ahead = bench.ahead
        self.rule = bench.rule
        self.done = bench.done
        self.verdict = bench.verdict
        bench.block = self
        return bench

    def __exit__(self, kind, value, trace):
        bench = self.bench
        bench.block = self.outer
        if kind is not None or self.kept is None:
            bench.past = self.past
            bench.ahead = self.ahead
            bench.rule = self.rule
            bench.done = self.done
            bench.verdict = self.verdict


class Bench:
    """A law under hands: rule, how many deeds stand, and whether there is a way of playing, as they are now.

    A deed is kept as (its line in a journal, the law behind it, the verdict on that). Those that stand are the past,
    behind the law with which the bench began; those that can be done again, the next one first, are ahead.
    """

    def __init__(self, text):
        rule = Law(text)
        self.block = None
        self.stand((("", rule, verdict_on(rule)),), ())

    def __eq__(self, other):
        return isinstance(other, Bench) and lines_of(self) == lines_of(other)

    def stand(self, past, ahead):
        """Let just these deeds stand, and those be done again."""
        self.past = past
        self.ahead = ahead
        self.rule = past[-1][1]
        self.verdict = past[-1][2]
        self.done = len(past) - 1

    def do(self, line, rule):
        """Let a deed stand that makes the law this one; none can be done again then."""
        self.stand(self.past + ((line, rule, verdict_on(rule)),), ())

    def turn(self):
        """Exchange f and s."""
        self.do("turn", turned(self.rule))

    def bar(self, loss):
        """Bar this loss, too."""
        rule = barring(self.rule, loss)
        self.do("bar " + shown(loss[0]) + " " + shown(loss[1]), rule)

    def meet(self, text):
        """Let just what the law of this text lets, too."""
        rule = both(self.rule, Law(text))
        self.do("meet " + text.replace("\n", ";"), rule)

    def widen(self, text):
        """Let also what the law of this text lets."""
        rule = either(self.rule, Law(text))
        self.do("widen " + text.replace("\n", ";"), rule)

    def undo(self):
        """Take the last deed back that stands."""
        if self.done == 0:
            raise NothingToUndo(None)
        self.stand(self.past[:-1], self.past[-1:] + self.ahead)

    def redo(self):
        """Do the deed again that was taken back last."""
        if self.ahead == ():
            raise NothingToRedo(None)
        self.stand(self.past + self.ahead[:1], self.ahead[1:])

    def trial(self):
        """A block for `with`, behind which the bench is as it was when it was entered, unless keep is called in it."""
        return Trial(self)

    def keep(self):
        """Let stand what is done in the innermost block."""
        block = self.block
        if block is None:
            raise NoTrial(None)
        block.kept = True

    def tried(self, look, *, keep=False):
        """What look returns of the bench; behind it the bench is as it was, unless it is to be kept."""
        with self.trial() as held:
            if keep is True:
                held.keep()
            return look(held)

    def copy(self):
        """An independent bench, alike in all things, outside of all blocks."""
        other = Bench(self.past[0][1].text)
        other.stand(self.past, self.ahead)
        return other


def verdict_on(rule):
    """Whether there is a way of playing, as "yes" or "no"."""
    return can_agree(rule)[0]


def shown(word):
    """The word as a line tells it."""
    return "-" if word == "" else word


def lines_of(bench):
    """The lines of the bench's journal."""
    return ["bench"] + bench.past[0][1].text.split("\n") + [deed[0] for deed in bench.past[1:]]
