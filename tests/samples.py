"""Laws, words, losses and values that the tests share, and checks of what is told."""

import itertools
import random

from twofarplayers.laws import Law

FATES = "nfs"
EVERY = Law("law\nstate a often\non n a\non f a\non s a")
NEVER = Law("law\nstate z\non n z\non f z\non s z")

NO_INTEGERS = (True, False, None, "1", "", (1,), (), [1], {}, {1: 1}, EVERY)
NO_STRINGS = (0, 1, True, False, None, ["law"], ("law",), (), {}, {"law": "law"}, EVERY)
NO_WORDS = NO_STRINGS + (
    "a", "N", "nfS", " ", "n f", "n\n", "\n", "-", "nn-", ["n", "f"], ("n", "f"), [], ("",), "n" * 201, "nfs" * 67)
NO_LOSSES = (
    None, 0, True, "", "n", "nf", "-n", (), ("n",), ("n", "f", "s"), ("", ""), ("nnn", ""), ["", "n"], ["n", "f"], [],
    {}, {"n": "f"}, EVERY, (("", "n"),), ("", "n", ""), ("", ("n",)), (("n",), "f"), ("", ["n"]), (["n"], "n"),
    ("", None), (None, "n"), (0, 1), (False, True), ("a", "n"), ("n", "a"), ("", "N"), ("n ", "n"), ("", "n\n"),
    ("", "-"), ("-", "n"), ("n" * 201, "n"), ("", "n" * 201), ("n" * 201, "n" * 201), (EVERY, "n"), ("n", EVERY))


def words_of(length):
    """All words of this length, as Python sorts them."""
    return ["".join(signs) for signs in itertools.product(sorted(FATES), repeat=length)]


def words_up_to(length):
    """All words of this length and of less."""
    return [word for size in range(length + 1) for word in words_of(size)]


def losses_up_to(most_head, most_ring):
    """All losses with a head and a round that are not longer."""
    rings = [word for word in words_up_to(most_ring) if word]
    return [(head, ring) for head in words_up_to(most_head) for ring in rings]


def letters(loss, many):
    """The first so many letters of a loss, one by one."""
    head, ring = loss
    return "".join(head[at] if at < len(head) else ring[(at - len(head)) % len(ring)] for at in range(many))


class Machine:
    """A law as numbers: where each state goes for n, f, s, and whether it is often; and what follows from that."""

    def __init__(self, goals, often):
        self.goals = goals
        self.often = often
        self.size = len(goals)
        self.names = ["abcdefghijklmnopqrstuvwxyz"[at % 26] + "abc"[at // 26] for at in range(self.size)]
        self.rule = Law(self.text())

    def text(self):
        lines = ["law"]
        for at, row in enumerate(self.goals):
            lines.append("state " + self.names[at] + (" often" if self.often[at] else ""))
            lines.extend("on " + fate + " " + self.names[goal] for fate, goal in zip(FATES, row))
        return "\n".join(lines)

    def path(self, word):
        """The states from the start on, one more than the word has fates."""
        path = [0]
        for fate in word:
            path.append(self.goals[path[-1]][FATES.index(fate)])
        return path

    def lets(self, loss):
        """By going so far that nothing new can come, and then once more as far."""
        head, ring = loss
        far = len(head) + len(ring) * self.size
        path = self.path(letters(loss, far + len(ring) * self.size))
        return any(self.often[state] for state in path[far + 1:])

    def reached(self):
        """By each state the set of those to which some way of one fate or more leads from it."""
        reached = [set(row) for row in self.goals]
        for between in range(self.size):
            for row in reached:
                if between in row:
                    row |= reached[between]
        return reached

    def living(self):
        """The states from which some way, or none, leads to an often state that comes back to itself."""
        reached = self.reached()
        rings = {state for state in range(self.size) if self.often[state] and state in reached[state]}
        return {state for state in range(self.size) if rings & (reached[state] | {state})}

    def begins(self, word):
        return self.path(word)[-1] in self.living()


def machines_of_two():
    """All machines with one state, or with two."""
    found = []
    for size in (1, 2):
        rows = list(itertools.product(range(size), repeat=3))
        for goals in itertools.product(rows, repeat=size):
            for often in itertools.product((False, True), repeat=size):
                found.append(Machine(goals, often))
    return found


def drawn_machines(size, many, seed):
    """So many machines with so many states, the same at each call; some of them let little or nothing."""
    chance = random.Random(seed)
    found = []
    for at in range(many):
        # Forward goals make chains: rings are rare there, and many often states come only once.
        lowest = [state if at % 2 else 0 for state in range(size)]
        goals = [tuple(chance.randrange(lowest[state], size) for _ in FATES) for state in range(size)]
        often = [chance.randrange(3) == 0 for _ in range(size)]
        found.append(Machine(goals, often))
    return found


def plain(value):
    """Whether the value is made of tuples, strings, integers, bools and None, and of nothing derived from them."""
    if type(value) is tuple:
        return all(plain(part) for part in value)
    return value is None or type(value) in (str, int, bool)


def same(one, other):
    """Whether both are the same value of the same kinds: True is not 1 here, and a list is no tuple."""
    if type(one) is not type(other):
        return False
    if type(one) in (tuple, list):
        return len(one) == len(other) and all(same(*pair) for pair in zip(one, other))
    return one == other
