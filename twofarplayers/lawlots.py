"""Laws out of laws: turned, put together, with one loss barred; and whether one law lets all that another one lets."""

from twofarplayers.errors import TooMany
from twofarplayers.laws import MOST_STATES, Law, lets, reached, ways_from
from twofarplayers.losses import least
from twofarplayers.words import FATES, LETTERS, is_loss


def text_of(names, often, steps):
    """The text of a law with these states, of which these are often, and these steps by state and fate."""
    lines = ["law"]
    for name in names:
        lines.append("state " + name + (" often" if name in often else ""))
        lines.extend(["on " + fate + " " + steps[name][fate] for fate in FATES])
    return "\n".join(lines)


def name_at(at):
    """A name for the state with this place, counted from 0."""
    return LETTERS[at // len(LETTERS)] + LETTERS[at % len(LETTERS)]


def grown(start, goal_of):
    """All nodes that are reached from the start, which stands first: by each, and by the fate, the next one."""
    goals = {}
    edge = [start]
    while edge:
        ahead = []
        for node in edge:
            if node not in goals:
                goals[node] = {fate: goal_of(node, fate) for fate in FATES}
                ahead.extend([goals[node][fate] for fate in FATES])
        edge = ahead
    return goals


def named(goals, is_often):
    """The law with these nodes as its states, in their sequence; TooMany if they are too many."""
    if len(goals) > MOST_STATES:
        raise TooMany(len(goals))
    names = {node: name_at(at) for at, node in enumerate(goals)}
    often = {names[node]: True for node in goals if is_often(node)}
    steps = {names[node]: {fate: names[goals[node][fate]] for fate in FATES} for node in goals}
    return Law(text_of(list(steps), often, steps))


def grown_pairs(rule, other):
    """What grown tells of the pairs of a state of the one and a state of the other."""
    start = (rule.names[0], other.names[0])
    return grown(start, lambda node, fate: (rule.steps[node[0]][fate], other.steps[node[1]][fate]))


def turned(rule):
    """The law with the same states, f and s exchanged."""
    steps = {name: {"n": row["n"], "f": row["s"], "s": row["f"]} for name, row in rule.steps.items()}
    return Law(text_of(rule.names, rule.often, steps))


def both(rule, other):
    """A law that lets a loss just if both do."""
    laws = (rule, other)

    def goal_of(node, fate):
        states = node[:2]
        waits = node[2]
        # Which of the two is waited for changes as soon as it has stood on an often state.
        if laws[waits].marked[states[waits]]:
            waits = 1 - waits
        return (rule.steps[states[0]][fate], other.steps[states[1]][fate], waits)

    goals = grown((rule.names[0], other.names[0], 0), goal_of)
    return named(goals, lambda node: node[2] == 0 and rule.marked[node[0]])


def either(rule, other):
    """A law that lets a loss just if one of them does, or both."""
    return named(grown_pairs(rule, other), lambda node: rule.marked[node[0]] or other.marked[node[1]])


def barring(rule, loss):
    """A law that lets just what the rule lets, but not this loss."""
    head, ring = least(loss)
    letters = head + ring

    def goal_of(node, fate):
        state, at = node
        goal = rule.steps[state][fate]
        if at is None or fate != letters[at]:
            return (goal, None)
        return (goal, at + 1 if at + 1 < len(letters) else len(head))

    # A place on the loss stands beside each state, None behind the first fate that is not the loss's.
    goals = grown((rule.names[0], 0), goal_of)
    return named(goals, lambda node: node[1] is None and rule.marked[node[0]])


def parting(rule, other):
    """A loss that the rule lets, and the other one bars; None if there is none."""
    goals = grown_pairs(rule, other)
    joint = named(goals, lambda node: rule.marked[node[0]])
    quiet = {name: True for name, node in zip(joint.names, goals) if not other.marked[node[1]]}
    heads = reached(joint)
    for name in quiet:
        if joint.marked[name]:
            ring = ways_from(joint, name, quiet).get(name)
            if ring is not None:
                return (heads[name], ring)
    return None


def lets_all(rule, other):
    """("all",) if the other lets each loss that the rule lets, or ("parting", a loss that it does not)."""
    loss = parting(rule, other)
    return ("all",) if loss is None else ("parting", loss)


def shows_lets_all(rule, other, value):
    """Whether the value is right as what lets_all tells."""
    found = lets_all(rule, other)
    if type(value) is tuple and len(value) == 2 and value[0] == "parting":
        return is_loss(value[1]) and lets(rule, value[1]) and not lets(other, value[1])
    return value == found
