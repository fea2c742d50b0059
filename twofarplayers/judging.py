"""Whether a pair is good for a law; which losses lead it astray, how late it ends, and on what.

A pair with a law is one machine more. Its nodes are tuples: the law's state, the first machine's, the second one's, the
first player's end, and the second one's (NO_END where there is none yet). Only the nodes count to which the beginnings
of losses lead that are let; they are told by their steps: a dict, by each node, of the (fate, next node) from it.
"""

from twofarplayers.errors import NotGood
from twofarplayers.laws import lets_from, loss_from
from twofarplayers.pairs import NO_END, borne, ends_along, start_of, states_behind
from twofarplayers.rounds import living
from twofarplayers.words import FATES, is_long_loss, is_wishes, need_wishes

ALL_WISHES = ((0, 0), (0, 1), (1, 0), (1, 1))
# In the sequence in which they are told.
ENDS = (0, 1, "-")


def node_at(pair, state, states, had):
    """The node with these states, come to with these ends."""
    one, other = [now if end == NO_END else end for end, now in zip(had, borne(pair, states))]
    return (state,) + states + (one, other)


def is_open(node):
    """Whether some player has not ended yet."""
    return NO_END in node[3:]


def steps_from(rule, pair, alive, node):
    """The (fate, next node) from this node by which the rule comes to one of these states."""
    state, first, second, one, other = node
    found = []
    for fate in FATES:
        goal = rule.steps[state][fate]
        if goal in alive:
            found.append((fate, node_at(pair, goal, states_behind(pair, (first, second), fate), (one, other))))
    return found


def joined(rule, pair, wishes):
    """The steps of all nodes, the first node first; none if the rule lets no loss."""
    alive = living(rule)
    start = node_at(pair, rule.names[0], start_of(pair, wishes), (NO_END, NO_END))
    steps = {}
    edge = [start] if start[0] in alive else []
    while edge:
        ahead = []
        for node in edge:
            if node not in steps:
                steps[node] = steps_from(rule, pair, alive, node)
                ahead.extend([goal for _, goal in steps[node]])
        edge = ahead
    return steps


def open_goals(steps):
    """By each open node the open ones that are next."""
    return {node: [goal for _, goal in steps[node] if is_open(goal)] for node in steps if is_open(node)}


def left_order(goals):
    """The nodes in the sequence in which a search, going as deep as it can, leaves them."""
    order = []
    seen = {}
    for start in goals:
        stack = [(start, False)]
        while stack:
            node, left = stack.pop()
            if left:
                order.append(node)
            elif node not in seen:
                seen[node] = True
                stack.append((node, True))
                stack.extend([(goal, False) for goal in goals[node] if goal not in seen])
    return order


def groups_of(goals):
    """By each node one that stands for all with which it leads to and fro."""
    sources = {node: [] for node in goals}
    for node in goals:
        for goal in goals[node]:
            sources[goal].append(node)
    groups = {}
    for root in reversed(left_order(goals)):
        stack = [root]
        while stack:
            node = stack.pop()
            if node not in groups:
                groups[node] = root
                stack.extend(sources[node])
    return groups


def endless(rule, steps):
    """The open nodes with an often state from which some way leads back: there, some player may never end."""
    goals = open_goals(steps)
    groups = groups_of(goals)
    often = [node for node in goals if rule.marked[node[0]]]
    return [node for node in often if any([groups[goal] == groups[node] for goal in goals[node]])]


def way(steps, start, end):
    """A shortest word, of one fate or more, that leads from the one node to the other, which it does."""
    behind = {}
    edge = [start]
    while end not in behind:
        ahead = []
        for node in edge:
            for fate, goal in steps[node]:
                if goal not in behind:
                    behind[goal] = (node, fate)
                    ahead.append(goal)
        edge = ahead
    node, fate = behind[end]
    fates = [fate]
    while node != start:
        node, fate = behind[node]
        fates.append(fate)
    return "".join(reversed(fates))


def goes_wrong(word, values, wishes):
    """Whether what the word tells goes wrong if the players end on these values, NO_END for never."""
    if word == "never":
        return NO_END in values
    if word == "unlike":
        return NO_END not in values and values[0] != values[1]
    return word == "nobody" and any([end != NO_END and end not in wishes for end in values])


def first_wrong(rule, steps, wishes):
    """A node at which it is settled what can go wrong, and the word for it; None if nothing can."""
    for node in steps:
        for word in ("unlike", "nobody"):
            if goes_wrong(word, node[3:], wishes):
                return (node, word)
    for node in endless(rule, steps):
        return (node, "never")
    return None


def leading(rule, steps, node, word):
    """A loss that is let, and leads by this node, along which goes wrong what the word tells."""
    start = list(steps)[0]
    head = "" if node == start else way(steps, start, node)
    if word == "never":
        return (head, way(steps, node, node))
    more, ring = loss_from(rule, node[0])
    return (head + more, ring)


def judged(rule, pair):
    """("good",), or ("bad", wishes, loss, word): a loss that is let, and what goes wrong along it."""
    for wishes in ALL_WISHES:
        steps = joined(rule, pair, wishes)
        wrong = first_wrong(rule, steps, wishes)
        if wrong is not None:
            node, word = wrong
            return ("bad", wishes, leading(rule, steps, node, word), word)
    return ("good",)


def shows_judged(rule, pair, value):
    """Whether the value is right as what judged tells; its loss may be of any length."""
    if type(value) is not tuple:
        return False
    if len(value) == 1:
        return judged(rule, pair) == value
    if len(value) != 4 or value[0] != "bad" or not is_wishes(value[1]) or not is_long_loss(value[2]):
        return False
    if not lets_from(rule, rule.names[0], value[2]):
        return False
    found = [NO_END if told is None else told[1] for told in ends_along(pair, value[1], value[2])]
    return goes_wrong(value[3], found, value[1])


def most_rounds(steps):
    """How many rounds the later player needs at most; None if there is no most, -1 if there is no node."""
    goals = open_goals(steps)
    waits = {node: 0 for node in goals}
    for node in goals:
        for goal in goals[node]:
            waits[goal] += 1
    edge = [node for node in goals if waits[node] == 0]
    rounds = 0 if steps else -1
    done = 0
    while edge:
        rounds += 1
        done += len(edge)
        ahead = []
        for node in edge:
            for goal in goals[node]:
                waits[goal] -= 1
                if waits[goal] == 0:
                    ahead.append(goal)
        edge = ahead
    # A ring of open nodes can be gone as often as one likes; its nodes wait for one another for ever.
    return rounds if done == len(goals) else None


def latest(rule, pair):
    """The greatest number of rounds behind which the later player ends; None if there is none, -1 if nothing is let."""
    if judged(rule, pair) != ("good",):
        raise NotGood(None)
    found = [most_rounds(joined(rule, pair, wishes)) for wishes in ALL_WISHES]
    return None if None in found else max(found)


def outcomes(rule, pair, wishes):
    """All (first one's end, second one's end) along losses that are let, "-" for one that never ends."""
    need_wishes(wishes)
    steps = joined(rule, pair, wishes)
    found = {node[3:]: True for node in steps if not is_open(node)}
    for node in endless(rule, steps):
        found[node[3:]] = True
    return tuple([(one, other) for one in ENDS for other in ENDS if (one, other) in found])
