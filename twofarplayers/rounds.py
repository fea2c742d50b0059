"""After how many rounds all can have ended, and how they end then."""

from twofarplayers.errors import Barred, BadWord, TooFew
from twofarplayers.laws import lets_from, loss_from, reached, state_behind, ways_from
from twofarplayers.rows import BEHIND, place_behind, place_of, whole_row
from twofarplayers.words import FATES, MOST_ROUNDS, is_loss, is_word, need_number, need_wishes


def fates_to(rule, goals):
    """By each state from which some way, or none, leads to one of these: the fewest fates of such a way."""
    fewest = {name: 0 for name in goals}
    many = 0
    while True:
        ahead = [name for name in rule.names if name not in fewest and leads_to(rule, name, fewest)]
        if not ahead:
            return fewest
        many += 1
        for name in ahead:
            fewest[name] = many


def leads_to(rule, name, goals):
    """Whether some fate leads from this state to one of these."""
    return any([goal in goals for goal in rule.steps[name].values()])


def living(rule):
    """The states from which some loss is let; by each the fewest fates to an often one that comes again and again."""
    return fates_to(rule, [name for name in rule.often if name in ways_from(rule, name, rule.steps)])


def fates_to_break(rule):
    """By each state from which some word is barred: the fewest fates of such a word."""
    alive = living(rule)
    return fates_to(rule, [name for name in rule.names if name not in alive])


def first_barred(rule, rounds, sequences):
    """The barred word that stands first of those of so many fates, which are enough.

    The sequences tell how the fates behind a word are sorted, the first one if its place is even, the other one if not.
    """
    fewest = fates_to_break(rule)
    state, word, at = rule.names[0], "", 0
    for left in reversed(range(rounds)):
        goals = rule.steps[state]
        fates = [fate for fate in sequences[at % 2] if goals[fate] in fewest and fewest[goals[fate]] <= left]
        state, word, at = goals[fates[0]], word + fates[0], place_behind(at, fates[0])
    return word


def need_enough(rule, rounds):
    """Refuse what is no number of rounds, and what is not enough."""
    need_number(rounds, MOST_ROUNDS)
    fewest = least_rounds(rule)
    if fewest is None or rounds < fewest:
        raise TooFew(fewest)


def barred_beginning(rule):
    """The least barred word, first by length, then as Python sorts; None if no word is barred."""
    fewest = least_rounds(rule)
    if fewest is None:
        return None
    order = sorted(FATES)
    return first_barred(rule, fewest, (order, order))


def least_rounds(rule):
    """The least number of rounds that is enough; None if none is."""
    return fates_to_break(rule).get(rule.names[0])


def why_rounds(rule):
    """("broken", a shortest barred word), or ("whole", for each state that is reached a loss let from it on)."""
    word = barred_beginning(rule)
    if word is not None:
        return ("broken", word)
    return ("whole", tuple([(name, loss_from(rule, name)) for name in sorted(reached(rule))]))


def is_broken(rule, value):
    """Whether this is a barred word of the least length."""
    if not is_word(value) or len(value) != least_rounds(rule):
        return False
    return state_behind(rule, rule.names[0], value) not in living(rule)


def is_living_row(rule, value, name):
    """Whether this is the name, and a loss that is let from the state with this name on."""
    if type(value) is not tuple or len(value) != 2 or value[0] != name:
        return False
    return is_loss(value[1]) and lets_from(rule, name, value[1])


def are_living_rows(rule, value):
    """Whether these are rows for all states that are reached."""
    names = sorted(reached(rule))
    if type(value) is not tuple or len(value) != len(names):
        return False
    return all([is_living_row(rule, row, name) for row, name in zip(value, names)])


def shows_why_rounds(rule, value):
    """Whether the value is right as what why_rounds tells."""
    if type(value) is not tuple or len(value) != 2:
        return False
    word, shown = value
    if word == "broken":
        return is_broken(rule, shown)
    return word == "whole" and are_living_rows(rule, shown)


def many_beginnings(rule, rounds):
    """How many beginnings of so many letters there are."""
    need_number(rounds, MOST_ROUNDS)
    counts = {rule.names[0]: 1}
    for _ in range(rounds):
        ahead = {}
        for name, many in counts.items():
            for goal in rule.steps[name].values():
                ahead[goal] = ahead.get(goal, 0) + many
        counts = ahead
    alive = living(rule)
    return sum([many for name, many in counts.items() if name in alive])


def barred_places(rule, rounds):
    """The places of all barred words of so many letters, ascending."""
    row = whole_row(rounds)
    alive = living(rule)
    start = rule.names[0]
    return tuple([at for at, word in enumerate(row) if state_behind(rule, start, word) not in alive])


def cut(rule, rounds):
    """The least place of a barred word of so many letters."""
    need_enough(rule, rounds)
    return place_of(first_barred(rule, rounds, BEHIND))


def ended(rule, rounds, wishes, word):
    """What both players end on behind this word, by the way of playing that hangs on the cut."""
    need_enough(rule, rounds)
    need_wishes(wishes)
    if not is_word(word) or len(word) != rounds:
        raise BadWord(word)
    if state_behind(rule, rule.names[0], word) not in living(rule):
        raise Barred(word)
    # The cut is the place of another word, so that both numbers, the place and one more, are on the same side of it.
    return wishes[0] if place_of(word) < cut(rule, rounds) else wishes[1]
