"""Pairs of machines that the tests share, as numbers, with a play of their own."""

import itertools
import random

from tests.samples import letters
from twofarplayers.pairs import Pair

CALLS = "abc"
TOLD = (
    "pair\nfirst z o\nstate z a 0 z z z z\nstate o b 1 o o o o\n"
    "second w w\nstate w c - z o w w\nstate z c 0 z z z z\nstate o c 1 o o o o")
RASH = (
    "pair\nfirst z o\nstate z a 0 z z z z\nstate o b 1 o o o o\nsecond z o\nstate z a 0 z z z z\nstate o b 1 o o o o")
ODD = "pair\nfirst z z\nstate z a 0 z z z z\nsecond z z\nstate z a 0 z z z z"


class Duo:
    """A pair: for each player the states to begin with, and each state as (call, end or None, the four next ones)."""

    def __init__(self, starts, states):
        self.starts = starts
        self.states = states
        self.names = [["st" + "abcdefghijklmnop"[at] for at in range(len(rows))] for rows in states]
        self.pair = Pair(self.text())

    def text(self):
        lines = ["pair"]
        for player, starts, rows, names in zip(("first", "second"), self.starts, self.states, self.names):
            lines.append(" ".join([player] + [names[at] for at in starts]))
            for name, (call, end, goals) in zip(names, rows):
                shown = "-" if end is None else str(end)
                lines.append(" ".join(["state", name, CALLS[call], shown] + [names[goal] for goal in goals]))
        return "\n".join(lines)

    def step(self, places, fate):
        """The places of both states behind a round."""
        calls = [rows[at][0] for rows, at in zip(self.states, places)]
        one = self.states[0][places[0]][2][3 if fate == "s" else calls[1]]
        other = self.states[1][places[1]][2][3 if fate == "f" else calls[0]]
        return (one, other)

    def begin(self, wishes):
        return (self.starts[0][wishes[0]], self.starts[1][wishes[1]])

    def path(self, wishes, word):
        """The places of both states behind no round, one, and so on."""
        path = [self.begin(wishes)]
        for fate in word:
            path.append(self.step(path[-1], fate))
        return path

    def played(self, wishes, word):
        """Both players' ends, by a look at all states that they came to."""
        ends = []
        for player in (0, 1):
            found = [(at, self.states[player][places[player]][1]) for at, places in enumerate(self.path(wishes, word))]
            ends.append(next(((at, end) for at, end in found if end is not None), None))
        return tuple(ends)

    def ends(self, wishes, loss):
        """Both players' ends along so many letters that nothing new can come behind them."""
        head, ring = loss
        far = len(head) + len(ring) * (1 + len(self.states[0]) * len(self.states[1]))
        return self.played(wishes, letters(loss, far))

    def nodes(self, machine, wishes):
        """By each (law's state, places, ends) behind a beginning of a let loss: the set of those behind one fate more."""
        alive = machine.living()

        def at(state, places, ends):
            borne = [rows[place][1] for rows, place in zip(self.states, places)]
            return (state, places, tuple(now if end is None else end for end, now in zip(ends, borne)))

        edge = [at(0, self.begin(wishes), (None, None))] if 0 in alive else []
        found = {}
        while edge:
            node = edge.pop()
            if node not in found:
                state, places, ends = node
                goals = [(machine.goals[state]["nfs".index(fate)], fate) for fate in "nfs"]
                found[node] = {at(goal, self.step(places, fate), ends) for goal, fate in goals if goal in alive}
                edge.extend(found[node])
        return found

    def finals(self, machine, wishes):
        """The set of the values that both end on, None for never, along let losses."""
        found = self.nodes(machine, wishes)
        ended = {node[2] for node in found if None not in node[2]}
        # Who goes again and again through an often state without an end may never end.
        return ended | {node[2] for node in found if None in node[2] and machine.often[node[0]] and comes_back(found, node)}

    def latest(self, machine):
        """The latest end of a good pair: by the sets of nodes with a player that has not ended, behind 0 rounds, 1, .."""
        most = -1
        for wishes in itertools.product((0, 1), repeat=2):
            found = self.nodes(machine, wishes)
            layer = set(list(found)[:1])
            for rounds in range(len(found) + 1):
                layer = {node for node in layer if None in node[2]}
                if not layer:
                    most = max(most, rounds if found else -1)
                    break
                layer = set().union(*[found[node] for node in layer])
            else:
                return None
        return most


def comes_back(goals, node):
    """Whether some way of one step or more leads from the node back to it."""
    seen, edge = set(), [node]
    while edge:
        ahead = goals[edge.pop()] - seen
        seen |= ahead
        edge.extend(ahead)
    return node in seen


def drawn_duos(size, many, seed, ending=0.3):
    """So many pairs with so many states in each machine, the same at each call."""
    chance = random.Random(seed)
    found = []
    for _ in range(many):
        states = [[(chance.randrange(3), chance.choice((0, 1)) if chance.random() < ending else None,
                    tuple(chance.randrange(size) for _ in range(4))) for _ in range(size)] for _ in range(2)]
        starts = tuple((chance.randrange(size), chance.randrange(size)) for _ in range(2))
        found.append(Duo(starts, states))
    return found


def hopeful_duos(size, many, seed):
    """Pairs that often end well: who begins with a wish calls it, and states with an end stay where they are."""
    chance = random.Random(seed)
    found = []
    for _ in range(many):
        states = []
        for _ in range(2):
            # The last two states bear the ends; a wish is called, and waited with, ahead of them.
            rows = [(at % 2, None, tuple(chance.choice((at, size - 2, size - 1, chance.randrange(size))) for _ in range(4)))
                    for at in range(size - 2)]
            states.append(rows + [(end, end, (at,) * 4) for end, at in ((0, size - 2), (1, size - 1))])
        begin = [chance.choice(((0, 1), (size - 2, size - 1), (0, 0), (1, 1))) for _ in range(2)]
        found.append(Duo(tuple(begin), states))
    return found


def waiting(rounds):
    """A pair that ends on 0 behind so many rounds, whatever comes; of up to 11 rounds."""
    rows = [(2, None, (at + 1,) * 4) for at in range(rounds)] + [(0, 0, (rounds,) * 4)]
    return Duo(((0, 0), (0, 0)), [rows, rows])


def calling(first):
    """A pair in which the player at this place ends on its wish at once, and calls it; the other one waits for a call."""
    caller = [(0, 0, (0,) * 4), (1, 1, (1,) * 4)]
    waiter = [(2, None, (1, 2, 0, 0)), (2, 0, (1,) * 4), (2, 1, (2,) * 4)]
    return Duo(((0, 1), (0, 0)), [caller, waiter]) if first else Duo(((0, 0), (0, 1)), [waiter, caller])


def by_wishes(ends):
    """A pair that, where no letter is lost, ends behind one round, by its wishes, as this table tells (None for never)."""
    states = []
    for player in (0, 1):
        # Two states to begin with, by the own wish; then one for each own wish with each one that is heard.
        both = [(own, heard) if player == 0 else (heard, own) for own in (0, 1) for heard in (0, 1)]
        begin = [(own, None, (2 + 2 * own, 3 + 2 * own, own, own)) for own in (0, 1)]
        states.append(begin + [(2, ends[wishes][player], (at,) * 4) for at, wishes in enumerate(both, start=2)])
    return Duo(((0, 1), (0, 1)), states)
