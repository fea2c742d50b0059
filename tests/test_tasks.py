"""Tasks: their texts, and whether so many rounds solve them."""

import itertools
import random

from tests.cases import Case
from tests.samples import EVERY, NO_INTEGERS, NO_STRINGS, VALUES, nested, plain
from tests.task_samples import ALIKE, APART
from twofarplayers.errors import BadNumber, BadTask, NoPair
from twofarplayers.tasks import Task, allowed, least_solving, shows_solved, solved

LINES = APART.split("\n")
WORDY = (
    "task\nfirst given ends first\nsecond task second zzzzzz\ngiven given task ends ends given\ngiven ends second ends task task\n"
    "given first zzzzzz ends a given\ngiven first task ends a b")
SMALL = "task\nfirst a\nsecond b\ngiven a b ends c d"


def many_given(many):
    """A text with so many lines `given`, all of one pair of wishes."""
    signs = "abcdefghijklmnopqrstuvwxyz"
    return "\n".join(["task", "first a", "second b"] + ["given a b ends " + signs[at % 26] + " " + signs[at // 26] for at in range(many)])


def drawn_tasks(many, seed):
    """So many tasks, the same at each call; chains of ends are frequent, so that several rounds are needed."""
    chance = random.Random(seed)
    found = []
    for at in range(many):
        firsts, seconds = "xwv"[:chance.randrange(1, 4)], "yzu"[:chance.randrange(1, 4)]
        given = {}
        for one, other in itertools.product(firsts, seconds):
            if chance.random() < 0.7 or one == firsts[0] or other == seconds[0]:
                size = chance.choice((1, 2, 3, 5) if at % 2 else (1, 3, 6))
                for k in range(size):
                    line = (one, other, chance.choice("abcde"), chance.choice("abcde"))
                    if at % 2 == 0:
                        # A chain: from a to f, one step at a time.
                        line = (one, other, "abcdef"[(k + 1) // 2], "abcdef"[k // 2])
                    given[line] = True
        rows = list(given)
        chance.shuffle(rows)
        lines = ["task", "first " + " ".join(firsts), "second " + " ".join(seconds)]
        found.append(Task("\n".join(lines + [f"given {one} {other} ends {x} {y}" for one, other, x, y in rows])))
    return found


def chain(steps):
    """A task in which just so many steps, an odd number, lead from the first one's end to the second one's."""
    ends = ["given x z ends a r", "given w y ends s " + "bcdefghijklmnop"[steps // 2]]
    for at in range(steps):
        ends.append("given x y ends " + "abcdefghijklmno"[(at + 1) // 2] + " " + "bcdefghijklmnop"[at // 2])
    return Task("\n".join(["task", "first x w", "second y z"] + ends))


def end_choices(task):
    """All ends for each lone wish, as two dicts."""
    firsts = sorted({x for rows in task.table.values() for x, y in rows})
    seconds = sorted({y for rows in task.table.values() for x, y in rows})
    for ones in itertools.product(firsts, repeat=len(task.first)):
        for others in itertools.product(seconds, repeat=len(task.second)):
            yield dict(zip(task.first, ones)), dict(zip(task.second, others))


def is_solved(task, rounds):
    """By all choices of ends, and by which ends just so many steps lead to."""
    table = {pair: allowed(task, *pair) for pair in task.pairs}
    leads = {}
    for pair, rows in table.items():
        for start in {x for x, y in rows}:
            here = {start}
            for step in range(3 ** rounds):
                here = {y for x, y in rows if x in here} if step % 2 == 0 else {x for x, y in rows if y in here}
            leads[pair, start] = here
    return any(
        all(others[pair[1]] in leads.get((pair, ones[pair[0]]), ()) for pair in task.pairs) for ones, others in end_choices(task))


def is_way(task, rounds, rows):
    """Whether these are right rows for all pairs, a way of playing."""
    if [row[:2] for row in rows] != list(task.pairs):
        return False
    for one, other, row in rows:
        if len(row) != 3 ** rounds + 1:
            return False
        for at in range(3 ** rounds):
            x, y = (row[at], row[at + 1]) if at % 2 == 0 else (row[at + 1], row[at])
            if (x, y) not in allowed(task, one, other):
                return False
    return len({(one, row[0]) for one, _, row in rows}) == len({one for one, _, row in rows}) and len(
        {(other, row[-1]) for _, other, row in rows}) == len({other for _, other, row in rows})


TASKS = drawn_tasks(60, 1) + [Task(text) for text in (APART, ALIKE, WORDY, SMALL)]
CHAINS = [(chain(steps), least) for steps, least in ((1, 0), (3, 1), (5, 2), (7, 2), (9, 2), (11, 3), (27, 3), (29, 4))]


class Texts(Case):
    def test_right_ones(self):
        for text in (APART, ALIKE, WORDY, SMALL, many_given(1), many_given(60)):
            self.assertEqual(Task(text).text, text)
            self.assertEqual(Task(text=text).text, text)

    def test_properties(self):
        apart = Task(APART)
        self.assertEqual((apart.first, apart.second), (("x", "w"), ("y", "z")))
        self.assertEqual(apart.pairs, (("w", "y"), ("x", "y"), ("x", "z")))
        wordy = Task(WORDY)
        self.assertEqual((wordy.first, wordy.second), (("given", "ends", "first"), ("task", "second", "zzzzzz")))
        self.assertEqual(wordy.pairs, (("ends", "second"), ("first", "task"), ("first", "zzzzzz"), ("given", "task")))
        for task in TASKS:
            for told in (task.text, task.first, task.second, task.pairs):
                self.assertTrue(plain(told))
            self.assertEqual(task.pairs, tuple(sorted({tuple(line.split(" ")[1:3]) for line in task.text.split("\n")[3:]})))

    def test_allowed(self):
        apart = Task(APART)
        self.told((("a", "p"), ("b", "p"), ("b", "q")), allowed, apart, "x", "y")
        self.told((("a", "r"),), allowed, apart, one="x", other="z")
        upward = Task(APART.replace("ends a p", "ends b z"))
        self.told((("b", "p"), ("b", "q"), ("b", "z")), allowed, upward, "x", "y")
        for task in TASKS:
            for pair in task.pairs:
                wanted = sorted(tuple(line.split(" ")[4:]) for line in task.text.split("\n")[3:] if tuple(line.split(" ")[1:3]) == pair)
                self.told(tuple(wanted), allowed, task, *pair)

    def test_pairs_that_cannot_be(self):
        apart = Task(APART)
        for one, other in (("w", "z"), ("y", "x"), ("x", "x"), ("x", "a"), ("", ""), ("x", "Y"), ("x y", "y"), ("a", "p")):
            self.refused(NoPair, (one, other), allowed, apart, one, other)
        for value in NO_STRINGS + NO_INTEGERS + (("x", "y"), ["x"], ("x",), apart, "q", ""):
            self.refused(NoPair, (value, "y"), allowed, apart, value, "y")
            self.refused(NoPair, ("x", value), allowed, apart, "x", value)
            self.refused(NoPair, (value, value), allowed, other=value, one=value, task=apart)

    def test_no_strings(self):
        for value in NO_STRINGS + (Task(APART), (APART,), [APART], LINES, tuple(LINES)):
            self.refused(BadTask, 0, Task, value)
            self.refused(BadTask, 0, Task, text=value)

    def test_no_signs_and_a_line_feed_at_the_end(self):
        self.refused(BadTask, 1, Task, "")
        self.refused(BadTask, 1, Task, "\n" + APART)
        self.refused(BadTask, 2, Task, "task\n")
        self.refused(BadTask, 9, Task, APART + "\n")
        self.refused(BadTask, 5, Task, SMALL + "\n")
        self.refused(BadTask, 4, Task, "task\nfirst a\nsecond b\n")

    def test_less_than_four_lines(self):
        for many in range(1, 4):
            self.refused(BadTask, many + 1, Task, "\n".join(LINES[:many]))
            self.refused(BadTask, many + 1, Task, "\n".join(SMALL.split("\n")[:many]))

    def test_lines_out(self):
        # Out: task, first, second, the line of z, the line of w; the other ones may be out.
        for at, number in enumerate((1, 2, 3, 8, 8, None, None, None)):
            text = "\n".join(LINES[:at] + LINES[at + 1:])
            if number is None:
                self.assertEqual(len(allowed(Task(text), "x", "y")), 2)
            else:
                self.refused(BadTask, number, Task, text)

    def test_lines_twice(self):
        for at in range(len(LINES)):
            self.refused(BadTask, at + 2, Task, "\n".join(LINES[:at + 1] + LINES[at:]))
            if at > 2:
                self.refused(BadTask, 9, Task, APART + "\n" + LINES[at])

    def test_lines_exchanged(self):
        for at, number in enumerate((1, 2, 3, None, None, None, None)):
            text = "\n".join(LINES[:at] + [LINES[at + 1], LINES[at]] + LINES[at + 2:])
            if number is None:
                found = Task(text)
                self.assertEqual((found.first, found.second, found.pairs), (("x", "w"), ("y", "z"), Task(APART).pairs))
                self.assertEqual(solved(found, 1), solved(Task(APART), 1))
                self.assertFalse(found == Task(APART))
            else:
                self.refused(BadTask, number, Task, text)

    def test_lines_bent(self):
        for at, line in enumerate(LINES):
            words = line.split(" ")
            near = [line + " ", " " + line, line.upper(), line + "\t", "", "x" + line, words[0] + "  " + " ".join(words[1:]), line + ","]
            near += [" ".join(words[:-1] + [name]) for name in ("", "Z", "z1", "-", "toolong", "0")]
            if at > 0:
                near += [words[0], words[0] + " ", line.replace(" ", "\t", 1)]
            if at == 1:
                near += ["first x x", "first x w x", "first a b c d", "first x w v u", "second x w", "first x  w"]
            if at == 2:
                near += ["second y y", "second y z z", "second a b c d", "first y z"]
            if at > 2:
                near += [" ".join(words[:k] + words[k + 1:]) for k in range(6)] + [line + " a", line.replace("ends", "end")]
                near += [" ".join(words[:k] + ["?"] + words[k + 1:]) for k in range(6)]
                # Wishes that are not told, or of the other one.
                others = (("u", "y"), ("x", "u"), ("y", "x"), ("a", "y"), ("x", "x"), ("first", "y"), ("x", "second"), ("given", "ends"))
                near += [" ".join(words[:1] + [one, other] + words[3:]) for one, other in others]
                near += LINES[:at]
            for bent in near:
                for rest in (LINES[at + 1:], [], ["no line"]):
                    self.refused(BadTask, at + 1, Task, "\n".join(LINES[:at] + [bent] + rest))

    def test_wishes_that_stand_in_no_line(self):
        self.refused(BadTask, 9, Task, APART.replace("first x w", "first x w v"))
        self.refused(BadTask, 9, Task, APART.replace("second y z", "second u y z"))
        self.refused(BadTask, 5, Task, SMALL.replace("first a", "first a b"))
        self.refused(BadTask, 5, Task, SMALL.replace("second b", "second b a"))
        # They stand there as ends, or as the other one's wishes, alone.
        self.refused(BadTask, 5, Task, SMALL.replace("first a", "first a c"))
        self.refused(BadTask, 5, Task, "task\nfirst a b\nsecond b\ngiven a b ends b b")

    def test_bounds(self):
        self.assertEqual(len(allowed(Task(many_given(60)), "a", "b")), 60)
        self.refused(BadTask, 64, Task, many_given(61))
        self.refused(BadTask, 64, Task, many_given(70))
        self.refused(BadTask, 64, Task, many_given(60) + "\n")
        self.refused(BadTask, 64, Task, many_given(61).replace("first a", "first a b"))
        self.assertEqual(Task("task\nfirst a b c\nsecond d\ngiven a d ends x x\ngiven b d ends x x\ngiven c d ends x x").first, ("a", "b", "c"))
        self.refused(BadTask, 2, Task, "task\nfirst a b c d\nsecond d\ngiven a d ends x x")
        self.refused(BadTask, 3, Task, "task\nfirst a\nsecond a b c d\ngiven a d ends x x")
        self.refused(BadTask, 2, Task, "task\nfirst\nsecond b\ngiven a b ends c d")

    def test_equal_by_their_texts(self):
        self.assertTrue(Task(APART) == Task(APART))
        self.assertFalse(Task(APART) != Task(APART))
        for other in (Task(ALIKE), Task("\n".join(LINES[:3] + LINES[:2:-1])), APART, EVERY, None, 0, True, (), [], {}, (Task(APART),)):
            self.assertFalse(Task(APART) == other)
            self.assertTrue(Task(APART) != other)
            self.assertFalse(other == Task(APART))


class Solved(Case):
    def test_by_all_choices(self):
        words = set()
        for task in TASKS:
            for rounds in range(4):
                told = solved(task, rounds)
                words.add((rounds, told[0]))
                self.told(told, solved, Task(task.text), rounds)
                self.assertEqual(told[0], "yes" if is_solved(task, rounds) else "no")
        self.assertEqual(words, set(itertools.product(range(4), ("yes", "no"))))

    def test_told_ones_are_right(self):
        for task in TASKS + [task for task, least in CHAINS]:
            for rounds in range(6):
                told = solved(task, rounds)
                self.told(True, shows_solved, task, rounds, told)
                if told[0] == "yes":
                    self.assertEqual(len(told), 2)
                    self.assertTrue(is_way(task, rounds, told[1]))
                    self.told(False, shows_solved, task, rounds, ("no",))
                else:
                    self.assertEqual(told, ("no",))

    def test_more_rounds_solve_it_too(self):
        for task in TASKS:
            words = [solved(task, rounds)[0] for rounds in range(6)]
            self.assertEqual(words, sorted(words))

    def test_least_solving(self):
        for task in TASKS:
            for most in range(6):
                wanted = next((rounds for rounds in range(most + 1) if solved(task, rounds)[0] == "yes"), None)
                self.told(wanted, least_solving, task, most)

    def test_chains(self):
        for task, least in CHAINS:
            for most in range(6):
                self.told(least if least <= most else None, least_solving, task, most)
                self.assertEqual(solved(task, most)[0], "yes" if least <= most else "no")
                self.told(least > most, shows_solved, task, most, ("no",))

    def test_told_tasks(self):
        apart, alike = Task(APART), Task(ALIKE)
        self.told(("no",), solved, apart, 0)
        self.told(("yes", (("w", "y", ("c", "q", "c", "q")), ("x", "y", ("a", "p", "b", "q")), ("x", "z", ("a", "r", "a", "r")))),
                  solved, apart, 1)
        for rounds in range(6):
            self.told(("no",), solved, alike, rounds)
        self.told(("yes", (("a", "b", ("c", "d")),)), solved, Task(SMALL), 0)
        self.told(("yes", (("a", "b", ("c", "d") * 122),)), solved, Task(SMALL), 5)
        self.told(None, least_solving, alike, 5)

    def test_greatest_tasks(self):
        signs = "abcdefghijklmnopqrst"
        one = Task(many_given(60))
        for rounds in (0, 5):
            self.told(True, shows_solved, one, rounds, solved(one, rounds))
        # Three wishes of the first one, one of the second one, twenty pairs of ends for each; they have no end in common.
        rows = [f"given {wish} y ends {x} {wish}{x}" for wish in "xwv" for x in signs]
        hard = Task("\n".join(["task", "first x w v", "second y"] + rows))
        self.told(("no",), solved, hard, 5)
        self.told(None, least_solving, hard, 5)
        rows = [f"given {wish} y ends {x} {x}" for wish in "xwv" for x in signs]
        self.told(0, least_solving, Task("\n".join(["task", "first x w v", "second y"] + rows)), 5)
        # The only end that all three have in common is the last one.
        rows = [f"given {wish} y ends {x} {wish}{x}" for wish in "xwv" for x in signs[:19]] + [f"given {wish} y ends t t" for wish in "xwv"]
        self.told(0, least_solving, Task("\n".join(["task", "first x w v", "second y"] + rows)), 5)


class ShowsSolved(Case):
    def test_all_rows_of_one_round(self):
        for task in TASKS[:12] + [Task(APART), Task(SMALL)]:
            told = solved(task, 1)
            if told[0] == "yes":
                for at, (one, other, _) in enumerate(told[1]):
                    for other_row in itertools.product("abcdpq", repeat=4):
                        rows = told[1][:at] + ((one, other, other_row),) + told[1][at + 1:]
                        self.assertIs(shows_solved(task, 1, ("yes", rows)), is_way(task, 1, rows))

    def test_ends_of_the_lone_wishes(self):
        # Each row is right by itself; but x has another end with y than with z, or y another one with x than with w.
        loose = Task(APART + "\ngiven x z ends b r\ngiven w y ends c p")
        right = (("w", "y", ("c", "q")), ("x", "y", ("b", "q")), ("x", "z", ("b", "r")))
        self.told(True, shows_solved, loose, 0, ("yes", right))
        self.told(True, shows_solved, loose, 0, ("yes", (("w", "y", ("c", "p")), ("x", "y", ("a", "p")), ("x", "z", ("a", "r")))))
        for rows in (
                (("w", "y", ("c", "q")), ("x", "y", ("b", "q")), ("x", "z", ("a", "r"))),
                (("w", "y", ("c", "p")), ("x", "y", ("b", "q")), ("x", "z", ("b", "r"))),
                (("w", "y", ("c", "q")), ("x", "y", ("a", "p")), ("x", "z", ("a", "r")))):
            self.told(False, shows_solved, loose, 0, ("yes", rows))

    def test_values_near_right_ones(self):
        for task, rounds in ((Task(APART), 1), (Task(APART), 2), (Task(SMALL), 0), (Task(SMALL), 1), (CHAINS[3][0], 2)):
            told = solved(task, rounds)
            word, rows = told
            one, other, row = rows[0]
            near = [rows[1:], rows[:-1], rows + rows[:1], rows[:1] + rows, list(rows), (rows,), None, True, (), dict(enumerate(rows))]
            near += [rows[::-1]] if len(rows) > 1 else []
            for first in ((one, other), (one, other, list(row)), (one, other, row, row), [one, other, row], (other, one, row), (one, one, row),
                          (one, other, row[1:]), (one, other, row[:-1]), (one, other, row + row[-1:]), (one, other, row[-2:] + row),
                          (one, other, row + row[-2:]), (one, other, ()), (one, other, None), (one, other, "".join(row)), (None, other, row),
                          (one, None, row), (one, other, (None,) + row[1:]), (one, other, row[:-1] + (None,)), (one, other, row[:-1] + ("Q",)),
                          (one, other, ((row[0],),) + row[1:]), (one, other, row[::-1]), (one, other, ([row[0]],) + row[1:]), None, row,
                          (one, other, (EVERY,) + row[1:]), (EVERY, other, row), ((one, other), row), (one, other) + row, [one], (one, [other], row)):
                near.append((first,) + rows[1:])
            for value in near:
                self.told(False, shows_solved, task, rounds, ("yes", value))
            for value in (("yes",), ("yes", rows, rows), ["yes", rows], ("no", rows), ("Yes", rows), (rows, "yes"), rows, ("yes", rows, None),
                          (True, rows), (None, rows), (("yes", rows),), ("no",), ("yes", None), ("yes" + " ", rows)):
                self.told(False, shows_solved, task, rounds, value)
            self.told(True, shows_solved, task, rounds, ("yes", tuple(rows)))
            if rounds < 5:
                self.told(False, shows_solved, task, rounds + 1, told)
        self.assertIs(shows_solved(value=("no",), rounds=3, task=Task(ALIKE)), True)

    def test_values_of_any_kind(self):
        alike, apart = Task(ALIKE), Task(APART)
        for value in VALUES + tuple(nested(value, 28) for value in VALUES) + (apart, (apart,), ("no", apart), ("yes", (apart,) * 3)):
            for task, rounds in ((alike, 0), (alike, 2), (apart, 0), (apart, 1), (Task(SMALL), 0)):
                if value != ("no",):
                    self.told(False, shows_solved, task, rounds, value)
                self.told(False, shows_solved, task, rounds, ("yes", value))
                self.told(False, shows_solved, task, rounds, (value, value))
        for value in ("no", ["no"], ("No",), ("no", None), ("no", "no"), (("no",),), (None,), ("",), ("no ",), {"no": 1}, ("yes",)):
            self.told(False, shows_solved, alike, 1, value)
            self.told(False, shows_solved, apart, 0, value)
        self.told(True, shows_solved, alike, 1, ("no",))
        self.told(True, shows_solved, apart, 0, ("no",))
        self.told(False, shows_solved, apart, 1, ("no",))

    def test_wrong_numbers(self):
        for task in (Task(APART), Task(ALIKE)):
            for value in NO_INTEGERS + (-1, 6, 7, 200, 10 ** 11, -10 ** 11):
                self.refused(BadNumber, value, solved, task, value)
                self.refused(BadNumber, value, solved, rounds=value, task=task)
                self.refused(BadNumber, value, least_solving, task, value)
                self.refused(BadNumber, value, least_solving, most=value, task=task)
                for shown in (("no",), None, ("yes", ())):
                    self.refused(BadNumber, value, shows_solved, task, value, shown)
                self.refused(BadNumber, value, shows_solved, value=("no",), rounds=value, task=task)
