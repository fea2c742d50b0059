"""Laws, words, losses and values that the tests share, and checks of what is told."""

import itertools
import random

from twofarplayers.laws import Law

FATES = "nfs"
EVERY = Law("law\nstate a often\non n a\non f a\non s a")
NEVER = Law("law\nstate z\non n z\non f z\non s z")
SURE = Law("law\nstate g often\non n g\non f b\non s b\nstate b\non n b\non f b\non s b")

NO_INTEGERS = (True, False, None, "1", "", (1,), (), [1], {}, {1: 1}, EVERY)
NO_STRINGS = (0, 1, True, False, None, ["law"], ("law",), (), {}, {"law": "law"}, EVERY)
NO_WORDS = NO_STRINGS + (
    "a", "N", "nfS", " ", "n f", "n\n", "\n", "-", "nn-", ["n", "f"], ("n", "f"), [], ("",), "n" * 201, "nfs" * 67)
NO_LOSSES = (
    None, 0, True, "", "n", "nf", "-n", (), ("n",), ("n", "f", "s"), ("", ""), ("nnn", ""), ["", "n"], ["n", "f"], [],
    {}, {"n": "f"}, EVERY, (("", "n"),), ("", "n", ""), ("", ("n",)), (("n",), "f"), ("", ["n"]), (["n"], "n"),
    ("", None), (None, "n"), (0, 1), (False, True), ("a", "n"), ("n", "a"), ("", "N"), ("n ", "n"), ("", "n\n"),
    ("", "-"), ("-", "n"), ("n" * 201, "n"), ("", "n" * 201), ("n" * 201, "n" * 201), (EVERY, "n"), ("n", EVERY))
WISHES = ((0, 0), (0, 1), (1, 0), (1, 1))
NO_WISHES = (
    0, 1, None, True, "", "01", (), (0,), (1,), (0, 1, 1), (0, 0, 0), [0, 1], [], {}, {0: 1}, EVERY, (True, 0), (0, True),
    (False, 1), (1, False), (False, True), (2, 0), (0, 2), (-1, 0), (1, -1), ("0", "1"), (0, "1"), ("", 0), (None, 0),
    (0, None), ((0,), (1,)), ((0, 1),), ((0, 1), 1), (0, [1]), ([0], 1), (EVERY, 0), (10 ** 11, 0))
# Losses that stand alone in the row, and twins, each told in several ways.
LONE = (("", "n"), ("nnn", "nn"), ("", "nf"), ("s", "fn"), ("ffs", "sn"), ("", "f"), ("ff", "fff"), ("", "s"), ("s", "ss"),
        ("nfs", "nfs"), ("", "fs"), ("f", "n"), ("ssf", "sf"))
TWINS = ((("f", "s"), ("n", "s")), (("s", "f"), ("n", "f")), (("nns", "f"), ("nnn", "f")), (("fss", "ss"), ("n", "sss")),
         (("sfn", "s"), ("sff", "s")), (("ffn", "f"), ("ffsff", "ff")), (("nfsn", "f"), ("nfssf", "f")))
NO_BARRED = tuple(value for value in NO_LOSSES if value != (("", "n"),)) + tuple((value,) for value in NO_LOSSES) + (
    ("", "n"), ("", "f"), (("f", "s"),), (("n", "s"),), (("s", "f"),), (("nnf", "ss"),), (("nsf", "s"), ("", "n")),
    (("", "f"), ("", "s")), (("", "n"), ("", "n")), (("", "s"), ("", "s")), (("f", "s"), ("f", "s")), (("f", "s"), ("fs", "s")),
    (("f", "s"), ("nn", "s")), (("f", "s"), ("s", "f")), (("f", "s"), ("n", "f")), (("fs", "f"), ("fn", "s")),
    (("f", "s"), ("n", "s"), ("n", "s")), (("", "n"), ("", "f"), ("", "s")), (("", "n"), None), (None, ("", "n")),
    [("", "n")], [("f", "s"), ("n", "s")], (["f", "s"], ("n", "s")), (("f", "s"), ["n", "s"]), {("", "n"): True},
    ((("f", "s"), ("n", "s")),), (("", "nf" * 101),), (("f", "s" * 201), ("n", "s")), (("f", "s"), ("n" + "s" * 200, "s")),
    "yes", ("yes", (("", "n"),)))


# Values that no function tells, and that are only nearly made of what they tell.
VALUES = NO_LOSSES + NO_WISHES + WISHES + NO_STRINGS + NO_INTEGERS + (
    -1, 10 ** 11, "yes", "no", "all", "broken", "whole", "f", "s", ("yes",), ("no",), ("yes", None), ("no", None),
    ("yes", "no"), ["no", ()], ["yes", (("", "n"),)], ("yes", [("", "n")]), ("no", []), ("no", {}), ("no", (), ()),
    ("no", ((),)), ("No", ()), ("no ", ()), (True, ()), (None, ()), ((), "no"), (("no", ()),), ("yes", ()), ("", ()),
    ("broken",), ("broken", None), ("broken", ()), ("broken", ("",)), ["broken", ""], ("whole",), ("whole", []),
    ("whole", None), ("whole", "a"), ("broken", "", ""), (EVERY, ()), ("no", EVERY), ("yes", EVERY), ("yes", (EVERY,)),
    ("broken", EVERY), ("whole", (EVERY,)), {"no": ()}, {"yes": ()}, [()], [[]], [None], ((((),),),), (0, 1, 2, 3))


def words_of(length):
    """All words of this length, as Python sorts them."""
    return ["".join(signs) for signs in itertools.product(sorted(FATES), repeat=length)]


def words_up_to(length):
    """All words of this length and of less."""
    return [word for size in range(length + 1) for word in words_of(size)]


def losses_up_to(most_head, most_ring):
    """All losses with a head and a round that are not longer."""
    rings = [word for word in words_up_to(most_ring) if word]
    return [(head, ring) for head in words_up_to(most_head) for ring in rings]


def letters(loss, many):
    """The first so many letters of a loss, one by one."""
    head, ring = loss
    return "".join(head[at] if at < len(head) else ring[(at - len(head)) % len(ring)] for at in range(many))


class Machine:
    """A law as numbers: where each state goes for n, f, s, and whether it is often; and what follows from that."""

    def __init__(self, goals, often):
        self.goals = goals
        self.often = often
        self.size = len(goals)
        self.names = ["abcdefghijklmnopqrstuvwxyz"[at % 26] + "abc"[at // 26] for at in range(self.size)]
        self.rule = Law(self.text())

    def text(self):
        lines = ["law"]
        for at, row in enumerate(self.goals):
            lines.append("state " + self.names[at] + (" often" if self.often[at] else ""))
            lines.extend("on " + fate + " " + self.names[goal] for fate, goal in zip(FATES, row))
        return "\n".join(lines)

    def path(self, word, start=0):
        """The states from the start on, one more than the word has fates."""
        path = [start]
        for fate in word:
            path.append(self.goals[path[-1]][FATES.index(fate)])
        return path

    def lets(self, loss, start=0):
        """By going so far that nothing new can come, and then once more as far."""
        head, ring = loss
        far = len(head) + len(ring) * self.size
        path = self.path(letters(loss, far + len(ring) * self.size), start)
        return any(self.often[state] for state in path[far + 1:])

    def reached(self):
        """By each state the set of those to which some way of one fate or more leads from it."""
        reached = [set(row) for row in self.goals]
        for between in range(self.size):
            for row in reached:
                if between in row:
                    row |= reached[between]
        return reached

    def living(self):
        """The states from which some way, or none, leads to an often state that comes back to itself."""
        reached = self.reached()
        rings = {state for state in range(self.size) if self.often[state] and state in reached[state]}
        return {state for state in range(self.size) if rings & (reached[state] | {state})}

    def begins(self, word):
        return self.path(word)[-1] in self.living()


def barring(losses):
    """A machine that bars just the losses that are alike to one of these."""
    rows = [letters(loss, len(loss[0]) + len(loss[1])) for loss in losses]
    starts = tuple(0 for _ in losses)
    found, goals = {starts: 0}, []
    while len(goals) < len(found):
        places, row = list(found)[len(goals)], []
        for fate in FATES:
            ahead = tuple(
                None if at is None or word[at] != fate else at + 1 if at + 1 < len(word) else len(loss[0])
                for at, word, loss in zip(places, rows, losses))
            row.append(found.setdefault(ahead, len(found)))
        goals.append(tuple(row))
    # What is on no barred loss any more lets all.
    return Machine(goals, [set(places) <= {None} for places in found])


def turned(machine):
    """The machine with f and s exchanged."""
    return Machine([(n, s, f) for n, f, s in machine.goals], machine.often)


def nested(value, deep):
    """Tuples around the value, so many deep."""
    for _ in range(deep):
        value = (value,)
    return value


def machines_of_two():
    """All machines with one state, or with two."""
    found = []
    for size in (1, 2):
        rows = list(itertools.product(range(size), repeat=3))
        for goals in itertools.product(rows, repeat=size):
            for often in itertools.product((False, True), repeat=size):
                found.append(Machine(goals, often))
    return found


def drawn_machines(size, many, seed):
    """So many machines with so many states, the same at each call; some of them let little or nothing."""
    chance = random.Random(seed)
    found = []
    for at in range(many):
        # Forward goals make chains: rings are rare there, and many often states come only once.
        lowest = [state if at % 2 else 0 for state in range(size)]
        goals = [tuple(chance.randrange(lowest[state], size) for _ in FATES) for state in range(size)]
        often = [chance.randrange(3) == 0 for _ in range(size)]
        found.append(Machine(goals, often))
    return found


def mild_machines(size, many, seed):
    """So many machines that bar little: both ends are let, and what is not often leads on, or back by one fate alone."""
    chance = random.Random(seed)
    last = size - 1
    found = []
    for _ in range(many):
        often = [True] + [chance.randrange(4) == 0 for _ in range(size - 2)] + [True]
        goals = [[1, last, last]]
        for state in range(1, last):
            goals.append([chance.randrange(state + 1, size) for _ in FATES])
            if chance.randrange(2):
                goals[state][chance.choice((1, 1, 2))] = chance.randrange(max(1, state - 1), state + 1)
        found.append(Machine([tuple(row) for row in goals] + [(last,) * 3], often))
    return found


def plain(value):
    """Whether the value is made of tuples, strings, integers, bools and None, and of nothing derived from them."""
    if type(value) is tuple:
        return all(plain(part) for part in value)
    return value is None or type(value) in (str, int, bool)


def same(one, other):
    """Whether both are the same value of the same kinds: True is not 1 here, and a list is no tuple."""
    if type(one) is not type(other):
        return False
    if type(one) in (tuple, list):
        return len(one) == len(other) and all(same(*pair) for pair in zip(one, other))
    return one == other
