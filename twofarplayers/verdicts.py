"""Whether a law has a way of playing, and what shows it: barred losses, or a table of states."""

from twofarplayers.laws import lets, reached, words_from
from twofarplayers.twins import PARTED, is_barred
from twofarplayers.words import is_whole

# The losses that stand at the ends of each row.
END_LOSSES = (("", "f"), ("", "s"))


def quiet_states(rule):
    """The states that are not often and to which some word leads, in the sequence of the names."""
    heads = reached(rule)
    return {name: True for name in rule.names if name in heads and not rule.marked[name]}


def quiet_steps(rule, quiet):
    """All (state, fate, next state) in which both states are of these."""
    return [(name, fate, goal) for name in quiet for fate, goal in rule.steps[name].items() if goal in quiet]


def quiet_ways(rule, quiet):
    """By each of these states what words_from tells of it among these states alone."""
    return {name: words_from(rule, name, quiet) for name in quiet}


def bars_fair(rule):
    """Any fair loss that the rule bars; None if it lets all fair ones."""
    heads = reached(rule)
    quiet = quiet_states(rule)
    ways = quiet_ways(rule, quiet)
    steps = quiet_steps(rule, quiet)
    for start, fate, near in steps:
        for far, other, end in steps:
            # Two steps of one ring make it fair, unless both are f or both are s; one step n does alone.
            if fate + other not in ("ff", "ss") and far in ways[near] and start in ways[end]:
                return (heads[start], fate + ways[near][far] + other + ways[end][start])
    return None


def bars_twins(rule):
    """Any twins both of which the rule bars; None if of all twins it lets one at least."""
    # Words that lead to the same state give twins that are let or barred alike, so one for each state is enough.
    for word in reached(rule).values():
        for ring in PARTED:
            one, other = [(word + fate, ring) for fate in PARTED[ring]]
            if not lets(rule, one) and not lets(rule, other):
                return (one, other)
    return None


def barred_ones(rule):
    """Barred losses that give a way of playing; None if there are none."""
    fair = bars_fair(rule)
    if fair is not None:
        return (fair,)
    for loss in END_LOSSES:
        if not lets(rule, loss):
            return (loss,)
    return bars_twins(rule)


def fate_of_ring(rule, ways, name):
    """The fate of a step from this state from which a way leads back to it."""
    for fate, goal in rule.steps[name].items():
        if goal in ways and name in ways[goal]:
            return fate
    # No ring, so that rank falls by each step from it: any fate is right.
    return "f"


def table_of(rule):
    """The table of a rule that bars no fair loss: rank is to how many states a state leads, so that rings keep it."""
    ways = quiet_ways(rule, quiet_states(rule))
    return tuple([(name, len(ways[name]), fate_of_ring(rule, ways, name)) for name in ways])


def is_row(value, name):
    """Whether this is a row for the state with this name."""
    if type(value) is not tuple or len(value) != 3 or value[0] != name:
        return False
    return is_whole(value[1]) and value[1] >= 0 and value[2] in ("f", "s")


def may_lead(row, fate, goal):
    """Whether, by this fate, a step may lead from a state with this (rank, fate) to one with that."""
    rank, kept = row
    below, other = goal
    return below < rank or (below == rank and fate == kept and kept == other)


def is_table(rule, value):
    """Whether this is a row for each state that is due, with ranks that fall as they must."""
    quiet = quiet_states(rule)
    if type(value) is not tuple or len(value) != len(quiet):
        return False
    if not all([is_row(row, name) for row, name in zip(value, quiet)]):
        return False
    rows = {name: (rank, fate) for name, rank, fate in value}
    return all([may_lead(rows[name], fate, rows[goal]) for name, fate, goal in quiet_steps(rule, quiet)])


def can_agree(rule):
    """("yes", barred ones) if there is a way of playing, or ("no", a table)."""
    barred = barred_ones(rule)
    if barred is None:
        return ("no", table_of(rule))
    return ("yes", barred)


def shows_can_agree(rule, value):
    """Whether the value is right as what can_agree tells."""
    if type(value) is not tuple or len(value) != 2:
        return False
    word, shown = value
    if word == "yes":
        return is_barred(shown) and not any([lets(rule, loss) for loss in shown])
    if word != "no" or not is_table(rule, shown):
        return False
    return all([lets(rule, loss) for loss in END_LOSSES]) and bars_twins(rule) is None
