"""Journals: texts that tell with which law a bench began, and what was done on it."""

from twofarplayers.bench import Bench, lines_of
from twofarplayers.errors import BadJournal, BadLaw, PlayError

DEEDS = ("turn", "bar", "meet", "widen")


def journal(bench):
    """The text of the bench's journal."""
    return "\n".join(lines_of(bench))


def word_told(shown):
    """The word that a line tells so."""
    return "" if shown == "-" else shown


def has_loss(words):
    """Whether these words of a line, behind the first one, stand for the head and the round of a loss."""
    return len(words) == 3 and words[1] != "" and words[2] != ""


def loss_told(words):
    """The head and the round for which the words of a line stand, whether they are a loss or not."""
    return (word_told(words[1]), word_told(words[2]))


def do_line(bench, line):
    """Do the deed on the bench that the line tells; False if it has the form of none."""
    word, _, text = line.partition(" ")
    if line == "turn":
        bench.turn()
    elif word == "bar" and has_loss(line.split(" ")):
        bench.bar(loss_told(line.split(" ")))
    elif word == "meet" and text != "":
        bench.meet(text.replace(";", "\n"))
    elif word == "widen" and text != "":
        bench.widen(text.replace(";", "\n"))
    else:
        return False
    return True


def end_of_law(lines):
    """How many lines stand ahead of the first one that begins with the word of a deed; `bench` begins with none."""
    for at, line in enumerate(lines):
        if line.split(" ")[0] in DEEDS:
            return at
    return len(lines)


def bench_of(lines):
    """The bench that began with the law of these lines, which stand behind the first line of a journal."""
    try:
        return Bench("\n".join(lines))
    except BadLaw as error:
        raise BadJournal(error.value + 1)


def read_journal(text):
    """A bench that began with the law of the journal, and on which its deeds were done."""
    if type(text) is not str:
        raise BadJournal(0)
    lines = text.split("\n")
    if lines[0] != "bench":
        raise BadJournal(1)
    end = end_of_law(lines)
    bench = bench_of(lines[1:end])
    for number, line in enumerate(lines[end:], start=end + 1):
        need_deed(bench, line, number)
    return bench


def need_deed(bench, line, number):
    """Do the deed of the line with this number; BadJournal if it tells none, or one that is refused."""
    try:
        done = do_line(bench, line)
    except PlayError:
        raise BadJournal(number)
    if not done:
        raise BadJournal(number)
