"""Texts of laws: which are laws, and which line of another one cannot stand."""

import itertools
import re

from tests.cases import Case
from tests.samples import NO_STRINGS, plain
from twofarplayers.errors import BadLaw
from twofarplayers.laws import after, Law, lets

ONE = "law\nstate a often\non n a\non f a\non s a"
TWO = "law\nstate a\non n b\non f a\non s b\nstate b often\non n b\non f a\non s a"
# The words of the text as names, and names of 6 letters and of one.
WORDY = "\n".join([
    "law", "state often often", "on n state", "on f on", "on s n", "state state", "on n often", "on f law", "on s state",
    "state on often", "on n on", "on f n", "on s often", "state n", "on n law", "on f law", "on s law",
    "state law often", "on n state", "on f zzzzzz", "on s often", "state zzzzzz", "on n s", "on f f", "on s law",
    "state s", "on n s", "on f s", "on s s", "state f", "on n f", "on f f", "on s f"])
FORMS = ("state (?P<name>[a-z]{1,6})( often)?", "on n [a-z]{1,6}", "on f [a-z]{1,6}", "on s [a-z]{1,6}")


def bad_line(text):
    """The number that BadLaw is due to tell, told by patterns; None for a law."""
    if not isinstance(text, str):
        return 0
    lines, names = text.split("\n"), []
    for number, line in enumerate(lines, 1):
        found = re.fullmatch(FORMS[(number - 2) % 4] if number > 1 else "law", line)
        if not found:
            return number
        if number % 4 == 2:
            names.append(found["name"])
            if names[-1] in names[:-1] or len(names) > 64:
                return number
    if len(lines) % 4 != 1 or not names:
        return len(lines) + 1
    wrong = [number for number, line in enumerate(lines, 1) if line[:3] == "on " and line.split(" ")[2] not in names]
    return wrong[0] if wrong else None


def bent(line):
    """Lines that are nearly this one."""
    words = line.split(" ")
    for at in range(len(words) + 1):
        for more in ("", "a", "often", "state", "on", "n", "f", "s", "law", "A", "toolong", "sixsix", "a1", "-", "often "):
            yield " ".join(words[:at] + [more] + words[at:])
            yield " ".join(words[:at] + [more] + words[at + 1:])
    for at in range(len(words)):
        yield " ".join(words[:at] + words[at + 1:])
        yield " ".join(words[:at] + [words[at].upper()] + words[at + 1:])
        yield " ".join(words[:at] + [words[at] + words[at]] + words[at + 1:])
    yield from ("", " ", line + " ", " " + line, line.replace(" ", "  "), line.replace(" ", ""), line[:-1], line[1:], line + line)
    yield from (line + "\n", "\n" + line, line.replace(" ", "\n"), line + ";", "#" + line)


def many_states(count):
    """The text of a law with so many states."""
    names = ["".join(pair) for pair in itertools.product("abcdefghij", repeat=2)][:count]
    return "\n".join(["law"] + [f"state {name}\non n {name}\non f {names[0]}\non s {names[-1]}" for name in names])


class LawTexts(Case):
    def judge(self, text):
        number = bad_line(text)
        if number is None:
            found = Law(text)
            self.assertEqual(found.text, text)
            self.assertEqual(len(found), len(found.names))
        else:
            self.refused(BadLaw, number, Law, text)

    def test_what_is_no_string(self):
        for value in NO_STRINGS:
            self.refused(BadLaw, 0, Law, value)
            self.refused(BadLaw, 0, Law, text=value)

    def test_lines_that_are_bent(self):
        for text in (ONE, TWO, WORDY):
            lines = text.split("\n")
            for at, line in enumerate(lines):
                for other in bent(line):
                    self.judge("\n".join(lines[:at] + [other] + lines[at + 1:]))

    def test_two_lines_that_are_bent(self):
        changes = (
            lambda line: line + "q", lambda line: line + "toolong", lambda line: line + " often", lambda line: line[:-1] + "-",
            lambda line: line[:-1], lambda line: line.upper(), lambda line: "state a", lambda line: "")
        lines = TWO.split("\n")
        for one, other in itertools.combinations(range(len(lines)), 2):
            for first, second in itertools.product(changes, repeat=2):
                changed = list(lines)
                changed[one], changed[other] = first(lines[one]), second(lines[other])
                self.judge("\n".join(changed))
                self.judge("\n".join(changed[:-1]))

    def test_lines_left_out_told_twice_exchanged(self):
        for text in (ONE, TWO, WORDY):
            lines = text.split("\n")
            for at, line in enumerate(lines):
                self.judge("\n".join(lines[:at] + lines[at + 1:]))
                self.judge("\n".join(lines[:at] + [line, line] + lines[at + 1:]))
                self.judge("\n".join(lines[:at]))
                self.judge("\n".join(lines[at:]))
                self.judge("\n".join(lines + lines[:at]))
            for one, other in itertools.combinations(range(len(lines)), 2):
                changed = list(lines)
                changed[one], changed[other] = lines[other], lines[one]
                self.judge("\n".join(changed))

    def test_told_numbers(self):
        rows = TWO.split("\n")
        for number, text in (
                (1, ""), (1, "\n"), (1, "laws"), (1, " law"), (1, "law "), (1, "LAW"), (1, "state a"), (2, "law"),
                (2, "law\n"), (2, "law\n\n"), (3, "law\nstate a"), (3, "law\nstate a\n"), (4, "law\nstate a\non n a"),
                (5, "law\nstate a\non n a\non f b"), (6, ONE + "\n"), (6, ONE + "\nlaw"), (6, ONE + "\nstate a"),
                (6, ONE + "\nstate a often"), (7, ONE + "\nstate b"), (7, ONE + "\nstate b\n"), (10, TWO + "\n"),
                (2, ONE.replace("often", "never")), (2, ONE.replace(" often", " often often")), (4, ONE.replace("on f", "on s")),
                (3, ONE.replace("state a", "state")), (3, ONE.replace("on n a", "on n")), (5, ONE.replace("on s a", "on s b")),
                (2, ONE.replace(" often", "  often")), (2, ONE.replace(" often", " "))):
            self.refused(BadLaw, number, Law, text)
        # The form of a later line, or a line that lacks, stands ahead of a name that is of no state.
        self.refused(BadLaw, 9, Law, "\n".join(rows[:2] + ["on n z"] + rows[3:8] + ["on s"]))
        self.refused(BadLaw, 9, Law, "\n".join(rows[:2] + ["on n z"] + rows[3:8]))
        self.refused(BadLaw, 3, Law, "\n".join(rows[:2] + ["on n z"] + rows[3:8] + ["on s z"]))
        self.refused(BadLaw, 3, Law, "\n".join(rows[:2] + ["on n toolong"] + rows[3:8] + ["on s"]))
        self.refused(BadLaw, 9, Law, "\n".join(rows[:2] + ["on n z"] + rows[3:8] + ["on s toolong"]))

    def test_number_of_states(self):
        self.assertEqual(len(Law(many_states(64))), 64)
        self.refused(BadLaw, 258, Law, many_states(65))
        self.refused(BadLaw, 258, Law, many_states(64) + "\nstate z")
        self.refused(BadLaw, 258, Law, many_states(70))
        self.refused(BadLaw, 258, Law, many_states(64) + "\n")
        self.refused(BadLaw, 257, Law, many_states(64).rpartition("\n")[0])

    def test_words_of_the_text_as_names(self):
        wordy = Law(WORDY)
        self.assertEqual(wordy.names, ("often", "state", "on", "n", "law", "zzzzzz", "s", "f"))
        self.assertEqual(wordy.often, ("often", "on", "law"))
        self.assertEqual([after(wordy, word) for word in ("", "n", "f", "s", "nf", "nfff")], ["often", "state", "on", "n", "law", "f"])
        self.assertEqual(Law("law\nstate often\non n often\non f often\non s often").often, ())
        self.assertEqual(Law("law\nstate often often\non n often\non f often\non s often").often, ("often",))

    def test_properties(self):
        for text in (ONE, TWO, WORDY, many_states(64)):
            found = Law(text)
            self.assertEqual(found.text, text)
            self.assertTrue(plain(found.names) and plain(found.often) and plain(found.text))
            self.assertIs(type(found.names), tuple)
            self.assertIs(type(found.often), tuple)
            self.assertIs(type(len(found)), int)
        self.assertEqual((Law(ONE).names, Law(ONE).often, len(Law(ONE))), (("a",), ("a",), 1))
        self.assertEqual((Law(TWO).names, Law(TWO).often, len(Law(TWO))), (("a", "b"), ("b",), 2))

    def test_equal_to_laws_of_the_same_text_alone(self):
        self.assertTrue(Law(ONE) == Law(ONE))
        self.assertFalse(Law(ONE) != Law(ONE))
        renamed = Law(ONE.replace(" a", " b"))
        for other in (Law(TWO), renamed, ONE, None, 0, 1, True, ("a",), [], {}, (Law(ONE),)):
            self.assertFalse(Law(ONE) == other)
            self.assertFalse(other == Law(ONE))
            self.assertTrue(Law(ONE) != other)
        # Alike in what they let, but of other texts.
        self.assertEqual(lets(Law(ONE), ("", "n")), lets(renamed, ("", "n")))
