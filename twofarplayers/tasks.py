"""Tasks: on which pairs two players may end, and whether so many rounds are enough for it, whatever is lost."""

from twofarplayers.errors import BadTask, NoPair
from twofarplayers.rows import width
from twofarplayers.words import is_name, need_number

MOST_WISHES = 3
MOST_GIVEN = 60
# Rows of ends grow threefold with each round, so that longer ones are refused.
MOST_SOLVING = 5


class Task:
    """What each player may wish, and for each pair of wishes that can be the pairs on which they may end."""

    def __init__(self, text):
        rows = standing_rows(text)
        given = rows[3:]
        self.text = text
        self.first = tuple(rows[1][1:])
        self.second = tuple(rows[2][1:])
        self.pairs = tuple(sorted(set([(words[1], words[2]) for words in given])))
        self.table = {both: ends_given(given, both) for both in self.pairs}

    def __eq__(self, other):
        return isinstance(other, Task) and self.text == other.text


def ends_given(given, both):
    """The pairs of ends that these lines give for this pair of wishes, ascending."""
    return tuple(sorted([(words[4], words[5]) for words in given if (words[1], words[2]) == both]))


def standing_rows(text):
    """The words of the lines; BadTask where the text is none of a task."""
    if type(text) is not str:
        raise BadTask(0)
    rows = []
    for line in text.split("\n"):
        words = line.split(" ")
        if not can_stand(words, rows):
            raise BadTask(len(rows) + 1)
        rows.append(words)
    given = rows[3:]
    if not given or not all([stands(wish, at, given) for at in (1, 2) for wish in rows[at][1:]]):
        raise BadTask(len(rows) + 1)
    return rows


def stands(wish, at, given):
    """Whether the wish stands at this place of one of these lines."""
    return wish in [words[at] for words in given]


def can_stand(words, rows):
    """Whether a line with these words can stand behind those with the words of the rows."""
    if not rows:
        return words == ["task"]
    if len(rows) < 3:
        return are_wishes(words, ("first", "second")[len(rows) - 1])
    if not is_given(words) or words in rows or len(rows) >= 3 + MOST_GIVEN:
        return False
    return words[1] in rows[1][1:] and words[2] in rows[2][1:]


def are_wishes(words, player):
    """Whether these are the words of the line that tells this player's wishes."""
    names = words[1:]
    if words[0] != player or not 1 <= len(names) <= MOST_WISHES:
        return False
    return all([is_name(name) for name in names]) and len(set(names)) == len(names)


def is_given(words):
    """Whether these are the words of a line that tells a pair of wishes, and one of ends."""
    if len(words) != 6 or words[0] != "given" or words[3] != "ends":
        return False
    return all([is_name(name) for name in words[1:3] + words[4:]])


def ends_beside(ends, odd, name):
    """What the other one may end on if this one does on the name, as (odd, name); odd is 1 for the second one's."""
    return [(1 - odd, row[1 - odd]) for row in ends if row[odd] == name]


def rows_from(ends, name, most):
    """By each name of the second one to which at most so many steps lead from this one of the first: a shortest row."""
    rows = {(0, name): (name,)}
    edge = [(0, name)]
    for _ in range(most):
        ahead = []
        for odd, here in edge:
            for goal in ends_beside(ends, odd, here):
                if goal not in rows:
                    rows[goal] = rows[odd, here] + (goal[1],)
                    ahead.append(goal)
        edge = ahead
    return {there: rows[odd, there] for odd, there in rows if odd == 1}


def all_rows(task, most):
    """By each pair of wishes, and by each end of the first one: what rows_from tells."""
    table = {}
    for both, ends in task.table.items():
        table[both] = {name: rows_from(ends, name, most) for name, _ in ends}
    return table


def narrowed(table, left, wish, end):
    """What is left to the second one, by its lone wishes, if the first one ends on this for this lone wish."""
    found = {}
    for other, names in left.items():
        goals = table[wish, other].get(end, {}) if (wish, other) in table else names
        found[other] = [name for name in names if name in goals]
    return found


def chosen(task, table, ends, left):
    """(The first one's ends by its lone wishes, these first, what is left to the second one's); None if nothing is.

    The ends told so far are those of as many wishes; the last ones of the first one's wishes are still free.
    """
    if len(ends) == len(task.first):
        return (ends, left)
    wish = task.first[len(ends)]
    free = sorted(set([name for both in task.pairs if both[0] == wish for name in table[both]]))
    for end in free:
        fewer = narrowed(table, left, wish, end)
        if all([fewer[other] != [] for other in fewer]):
            found = chosen(task, table, ends + [end], fewer)
            if found is not None:
                return found
    return None


def filled(row, steps):
    """The row with so many steps, which goes to and fro at its end."""
    return row + row[-2:] * ((steps + 1 - len(row)) // 2)


def allowed(task, one, other):
    """The pairs on which they may end if the first one's wish is this one, and the second one's the other."""
    if (one, other) not in task.pairs:
        raise NoPair((one, other))
    return task.table[one, other]


def solved(task, rounds):
    """("yes", the rows of ends of a way of playing with so many rounds), or ("no",)."""
    need_number(rounds, MOST_SOLVING)
    steps = width(rounds)
    table = all_rows(task, steps)
    names = sorted(set([name for ends in task.table.values() for _, name in ends]))
    found = chosen(task, table, [], {wish: names for wish in task.second})
    if found is None:
        return ("no",)
    ends = dict(zip(task.first, found[0]))
    rows = [(one, other, table[one, other][ends[one]][found[1][other][0]]) for one, other in task.pairs]
    return ("yes", tuple([(one, other, filled(row, steps)) for one, other, row in rows]))


def is_right(ends, value, steps):
    """Whether this is a row of ends with so many steps in which all neighbours are among these pairs."""
    if type(value) is not tuple or len(value) != steps + 1:
        return False
    steps_of_row = list(zip(value, value[1:]))
    # At an even number stands what the first one ends on.
    return all([(pair if at % 2 == 0 else pair[::-1]) in ends for at, pair in enumerate(steps_of_row)])


def is_way(task, value, steps):
    """Whether these are right rows, one for each pair of wishes that can be, in which who never heard ends alike."""
    if type(value) is not tuple or len(value) != len(task.pairs):
        return False
    firsts = {}
    lasts = {}
    for both, told in zip(task.pairs, value):
        if type(told) is not tuple or len(told) != 3 or told[:2] != both:
            return False
        row = told[2]
        if not is_right(task.table[both], row, steps):
            return False
        if firsts.setdefault(both[0], row[0]) != row[0] or lasts.setdefault(both[1], row[-1]) != row[-1]:
            return False
    return True


def shows_solved(task, rounds, value):
    """Whether the value is right as what solved tells."""
    found = solved(task, rounds)
    if type(value) is tuple and len(value) == 2 and value[0] == "yes":
        return is_way(task, value[1], width(rounds))
    return value == found


def least_solving(task, most):
    """The least number of rounds, of most at most, with which the task is solved; None if there is none."""
    need_number(most, MOST_SOLVING)
    for rounds in range(most + 1):
        if solved(task, rounds)[0] == "yes":
            return rounds
    return None
