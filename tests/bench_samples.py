"""Laws, journals, and looks at benches that the tests share."""

from tests.samples import EVERY, Machine, NEVER, SURE
from twofarplayers.errors import NothingToRedo, NothingToUndo
from twofarplayers.journals import journal

HEARD = "law\nstate a\non n b\non f a\non s a\nstate b often\non n b\non f a\non s a"
FIRST = "law\nstate a\non n b\non f a\non s b\nstate b often\non n b\non f a\non s b"
TEXTS = (EVERY.text, NEVER.text, SURE.text, HEARD, FIRST)
NO_LAWS = (("", 1), ("law", 2), (EVERY.text + "\n", 6), (EVERY.text.replace("on s a", "on s b"), 5), ("Law", 1), (HEARD[:-1] + "z", 9))
FLAT = HEARD.replace("\n", ";")
# Behind `bench` nine lines of a law, and then five deeds.
LINES = ["bench"] + HEARD.split("\n") + ["turn", "bar nn sn", "meet " + FIRST.replace("\n", ";"), "widen " + FLAT, "bar - n"]
WHOLE = "\n".join(LINES)


def ring(size, often=(0,)):
    """A machine that goes round by so many states, whatever comes."""
    return Machine([((at + 1) % size,) * 3 for at in range(size)], [at in often for at in range(size)])


def as_it_is(bench):
    """All that can be seen of a bench, also of what can be undone and done again."""
    seen = [journal(bench), bench.rule.text, bench.done, bench.verdict]
    other = bench.copy()
    while True:
        try:
            other.redo()
        except NothingToRedo:
            break
        seen.append((journal(other), other.rule.text, other.done, other.verdict))
    while True:
        try:
            other.undo()
        except NothingToUndo:
            break
        seen.append((journal(other), other.rule.text, other.done, other.verdict))
    return seen
