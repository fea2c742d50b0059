"""A desk: a bench that is asked, and worked on, by lines."""

from twofarplayers.errors import BadWords
from twofarplayers.journals import do_line, has_loss, loss_told, read_journal, word_told
from twofarplayers.laws import begins, lets
from twofarplayers.rounds import least_rounds


class Desk:
    """The desk of the bench that a journal tells."""

    def __init__(self, text):
        self.bench = read_journal(text)

    def say(self, line):
        """The answer to the line."""
        if type(line) is not str or "\n" in line:
            raise BadWords(line)
        if do_line(self.bench, line) or turn_back(self.bench, line):
            return "ok"
        answer = answer_to(self.bench, line)
        if answer is None:
            raise BadWords(line)
        return answer


def turn_back(bench, line):
    """Undo or redo, if the line says so; False if it does not."""
    if line == "undo":
        bench.undo()
    elif line == "redo":
        bench.redo()
    else:
        return False
    return True


def yes_or_no(holds):
    """The answer to what holds, or does not."""
    return "yes" if holds else "no"


def answer_to(bench, line):
    """The answer to the line, which asks for something; None if it does not."""
    words = line.split(" ")
    if line == "verdict":
        return bench.verdict
    if line == "rounds":
        fewest = least_rounds(bench.rule)
        return "none" if fewest is None else str(fewest)
    if words[0] == "lets" and has_loss(words):
        return yes_or_no(lets(bench.rule, loss_told(words)))
    if words[0] == "begins" and len(words) == 2 and words[1] != "":
        return yes_or_no(begins(bench.rule, word_told(words[1])))
    return None
