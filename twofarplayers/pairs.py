"""Pairs of machines, one for each player, and what they do along words and losses."""

from twofarplayers.errors import BadFate, BadPair, BadStates
from twofarplayers.words import FATES, is_name, need_loss, need_wishes, need_word

MOST_STATES = 12
CALLS = ("a", "b", "c")
# What a machine hears if the other one's letter is lost.
NOTHING = ""
NO_END = "-"
END_OF = {"0": 0, "1": 1, "-": "-"}


class Machine:
    """One player's machine, told by its lines: the first one tells where it begins, each other one a state."""

    def __init__(self, rows):
        states = rows[1:]
        self.starts = tuple(rows[0][1:])
        self.names = tuple([words[1] for words in states])
        self.calls = {words[1]: words[2] for words in states}
        self.bears = {words[1]: END_OF[words[3]] for words in states}
        self.steps = {words[1]: dict(zip(CALLS + (NOTHING,), words[4:])) for words in states}


class Pair:
    """Two machines that are told by a text; their states are known by their names."""

    def __init__(self, text):
        self.text = text
        self.machines = tuple([Machine(rows) for rows in standing_rows(text)])
        self.first, self.second = [machine.names for machine in self.machines]

    def __eq__(self, other):
        return isinstance(other, Pair) and self.text == other.text


def standing_rows(text):
    """For each machine the words of its lines; BadPair where the text is none of a pair."""
    if type(text) is not str:
        raise BadPair(0)
    lines = [line.split(" ") for line in text.split("\n")]
    rows = []
    for at, words in enumerate(lines):
        if not can_stand(at, words, rows):
            raise BadPair(at + 1)
        if words[0] == "state":
            rows[-1].append(words)
        elif at > 0:
            rows.append([words])
    if len(rows) < 2 or len(rows[1]) < 2:
        raise BadPair(len(lines) + 1)
    need_told_names(rows)
    return rows


def can_stand(at, words, rows):
    """Whether the line has the form that is due at this place, counted from 0, behind the machines' lines so far."""
    if at == 0:
        return words == ["pair"]
    if at == 1:
        return is_beginning(words, "first")
    if words[0] != "state":
        return len(rows) == 1 and len(rows[0]) > 1 and is_beginning(words, "second")
    names = [state[1] for state in rows[-1][1:]]
    return is_state(words) and words[1] not in names and len(names) < MOST_STATES


def is_beginning(words, player):
    """Whether these are the words of the line that tells where this player's machine begins."""
    return len(words) == 3 and words[0] == player and all([is_name(name) for name in words[1:]])


def is_state(words):
    """Whether these are, behind the word `state`, the words of the line of a state."""
    if len(words) != 8 or words[2] not in CALLS or words[3] not in END_OF:
        return False
    return all([is_name(name) for name in words[1:2] + words[4:]])


def need_told_names(rows):
    """Refuse the first line that names a state which its machine lacks."""
    # The line `pair` stands ahead of all of them.
    number = 1
    for lines in rows:
        names = [words[1] for words in lines[1:]]
        for words in lines:
            number += 1
            named = words[4:] if words[0] == "state" else words[1:]
            if not all([name in names for name in named]):
                raise BadPair(number)


def are_states(pair, value):
    """Whether this is a state of the first machine and one of the second machine."""
    if type(value) is not tuple or len(value) != 2:
        return False
    return all([type(name) is str and name in machine.steps for name, machine in zip(value, pair.machines)])


def start_of(pair, wishes):
    """Both machines' states ahead of the first round."""
    return tuple([machine.starts[wish] for machine, wish in zip(pair.machines, wishes)])


def states_behind(pair, states, fate):
    """Both machines' states behind a round with this fate."""
    one, other = pair.machines
    first, second = states
    to_first = NOTHING if fate == "s" else other.calls[second]
    to_second = NOTHING if fate == "f" else one.calls[first]
    return (one.steps[first][to_first], other.steps[second][to_second])


def borne(pair, states):
    """The ends that these states bear, NO_END for none."""
    return tuple([machine.bears[name] for machine, name in zip(pair.machines, states)])


def come_to(pair, states, had, rounds):
    """Both players' ends, as (round, end), where they come to these states behind so many rounds and had those ends."""
    found = list(zip(had, borne(pair, states)))
    return tuple([(rounds, end) if old is None and end != NO_END else old for old, end in found])


def go_on(pair, states, had, rounds, word):
    """Both machines' states, and both players' ends, behind the word, which comes behind so many rounds."""
    for at, fate in enumerate(word, start=rounds + 1):
        states = states_behind(pair, states, fate)
        had = come_to(pair, states, had, at)
    return (states, had)


def go(pair, wishes, word):
    """What go_on tells of a word from the beginning on."""
    states = start_of(pair, wishes)
    return go_on(pair, states, come_to(pair, states, (None, None), 0), 0, word)


def ends_along(pair, wishes, loss):
    """Both players' ends along a loss of any length."""
    head, ring = loss
    states, had = go(pair, wishes, head)
    rounds = len(head)
    seen = {}
    while None in had and states not in seen:
        seen[states] = True
        states, had = go_on(pair, states, had, rounds, ring)
        rounds += len(ring)
    return had


def begun(pair, wishes):
    """(The first machine's state, the second one's) ahead of the first round."""
    need_wishes(wishes)
    return start_of(pair, wishes)


def heard(pair, states, fate):
    """Both machines' states behind a round."""
    if not are_states(pair, states):
        raise BadStates(states)
    if type(fate) is not str or len(fate) != 1 or fate not in FATES:
        raise BadFate(fate)
    return states_behind(pair, states, fate)


def played(pair, wishes, word):
    """Both players' ends behind the word, as (round, end); None for one that has not ended."""
    need_wishes(wishes)
    need_word(word)
    return go(pair, wishes, word)[1]


def ends(pair, wishes, loss):
    """Both players' ends along the whole loss, as (round, end); None for one that never ends."""
    need_wishes(wishes)
    need_loss(loss)
    return ends_along(pair, wishes, loss)
