"""Laws: machines that let some losses and bar all others."""

from twofarplayers.errors import BadLaw
from twofarplayers.words import FATES, is_loss, is_name, need_loss, need_word

MOST_STATES = 64
LINES_OF_A_STATE = 4


class Law:
    """A machine that is told by a text; its states are known by their names."""

    def __init__(self, text):
        lines = standing_lines(text)
        heads = [line.split(" ") for line in lines[1::LINES_OF_A_STATE]]
        self.text = text
        self.names = tuple([words[1] for words in heads])
        self.often = tuple([words[1] for words in heads if len(words) == 3])
        self.marked = {words[1]: len(words) == 3 for words in heads}
        self.steps = steps_of(lines)

    def __eq__(self, other):
        return isinstance(other, Law) and self.text == other.text

    def __len__(self):
        return len(self.names)


def standing_lines(text):
    """The lines of the text of a machine; BadLaw where it is none."""
    if type(text) is not str:
        raise BadLaw(0)
    lines = text.split("\n")
    names = []
    for at, line in enumerate(lines):
        if not can_stand(at, line, names):
            raise BadLaw(at + 1)
        if is_head(at):
            names.append(line.split(" ")[1])
    if not names or len(lines) != 1 + len(names) * LINES_OF_A_STATE:
        raise BadLaw(len(lines) + 1)
    for at, line in enumerate(lines):
        if at > 0 and not is_head(at) and last_word(line) not in names:
            raise BadLaw(at + 1)
    return lines


def is_head(at):
    """Whether the line at this place, counted from 0, is due to be the first one of a state."""
    return at % LINES_OF_A_STATE == 1


def can_stand(at, line, names):
    """Whether the line has the form that is due there, behind lines that told states with these names."""
    words = line.split(" ")
    if at == 0:
        return line == "law"
    if is_head(at):
        return is_state(words) and words[1] not in names and len(names) < MOST_STATES
    return is_way(words, FATES[(at - 2) % LINES_OF_A_STATE])


def is_state(words):
    """Whether these are the words of the first line of a state."""
    if len(words) == 3 and words[2] != "often":
        return False
    return 2 <= len(words) <= 3 and words[0] == "state" and is_name(words[1])


def is_way(words, fate):
    """Whether these are the words of the line that tells where a state goes for this fate."""
    return len(words) == 3 and words[0] == "on" and words[1] == fate and is_name(words[2])


def last_word(line):
    """What stands behind the last blank of the line."""
    return line.split(" ")[-1]


def steps_of(lines):
    """By a state's name, and by the fate: the name of the state to which it goes."""
    steps = {}
    for at in range(1, len(lines), LINES_OF_A_STATE):
        name = lines[at].split(" ")[1]
        steps[name] = {fate: last_word(lines[at + k]) for k, fate in enumerate(FATES, start=1)}
    return steps


def states_along(rule, state, word):
    """The states to which the word leads from this one, one behind each of its fates."""
    states = []
    for fate in word:
        state = rule.steps[state][fate]
        states.append(state)
    return states


def state_behind(rule, state, word):
    """The state to which the whole word leads from this one."""
    for fate in word:
        state = rule.steps[state][fate]
    return state


def lets_ring(rule, state, ring):
    """Whether the ring, again and again from this state on, comes to often states for ever."""
    turns = {}
    marks = []
    while state not in turns:
        turns[state] = len(marks)
        states = states_along(rule, state, ring)
        marks.append(any([rule.marked[name] for name in states]))
        state = states[-1]
    # The turns ahead of the state that came again come just once, and so do not count.
    return any(marks[turns[state]:])


def ways_from(rule, state, within):
    """Shortest ways of one fate or more from the state, through these states alone, by that to which each leads."""
    ways = {}
    edge = [(state, "")]
    while edge:
        ahead = []
        for name, word in edge:
            for fate in FATES:
                goal = rule.steps[name][fate]
                if goal in within and goal not in ways:
                    ways[goal] = word + fate
                    ahead.append((goal, word + fate))
        edge = ahead
    return ways


def words_from(rule, state, within):
    """What ways_from tells, but to the state itself the word without fates leads."""
    words = ways_from(rule, state, within)
    words[state] = ""
    return words


def reached(rule):
    """By each state to which some word leads: a shortest such word."""
    return words_from(rule, rule.names[0], rule.steps)


def loss_from(rule, state):
    """Some loss that is let from this state on, as if it were the start; None if there is none."""
    heads = words_from(rule, state, rule.steps)
    for name in heads:
        if rule.marked[name]:
            ring = ways_from(rule, name, rule.steps).get(name)
            if ring is not None:
                return (heads[name], ring)
    return None


def lets_from(rule, state, loss):
    """Whether the loss is let from this state on, as if it were the start."""
    head, ring = loss
    return lets_ring(rule, state_behind(rule, state, head), ring)


def after(rule, word):
    """The name of the state in which the rule is behind the word."""
    need_word(word)
    return state_behind(rule, rule.names[0], word)


def lets(rule, loss):
    """Whether the rule lets the loss."""
    need_loss(loss)
    return lets_from(rule, rule.names[0], loss)


def begins(rule, word):
    """Whether some endless row that the rule lets begins with the word."""
    return loss_from(rule, after(rule, word)) is not None


def some_loss(rule):
    """Any loss that the rule lets; None if it bars all."""
    return loss_from(rule, rule.names[0])


def shows_some_loss(rule, value):
    """Whether the value is right as what some_loss tells."""
    if value is None:
        return some_loss(rule) is None
    return is_loss(value) and lets(rule, value)
