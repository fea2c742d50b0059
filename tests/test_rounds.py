"""How many rounds are enough, what shows it, and how both end behind so many."""

import itertools

from tests.cases import Case
from tests.samples import (
    barring, drawn_machines, EVERY, LONE, losses_up_to, Machine, machines_of_two, mild_machines, nested, NEVER, NO_INTEGERS,
    NO_LOSSES, NO_WISHES, NO_WORDS, TWINS, VALUES, WISHES, words_of)
from twofarplayers.errors import BadNumber, BadWishes, BadWord, Barred, TooFew
from twofarplayers.laws import Law
from twofarplayers.rounds import (
    barred_beginning, barred_places, cut, ended, least_rounds, many_beginnings, shows_why_rounds, why_rounds)
from twofarplayers.rows import numbers, place, whole_row, word_at

TWO = machines_of_two()
THREE = drawn_machines(3, 200, 1)
SOME = TWO[::9] + THREE[::7] + drawn_machines(5, 40, 2) + drawn_machines(9, 30, 3) + mild_machines(6, 20, 6)
LARGE = drawn_machines(64, 8, 4) + mild_machines(64, 4, 8)


def breaking(word):
    """A machine that bars just what begins with this word."""
    size = len(word)
    goals = [[size + 1] * 3 for _ in range(size)] + [[size] * 3, [size + 1] * 3]
    for at, fate in enumerate(word):
        goals[at]["nfs".index(fate)] = at + 1
    return Machine([tuple(row) for row in goals], [at != size for at in range(size + 2)])


def falling(size):
    """A machine that comes to its last state, which lets nothing, by n again and again; by f and s it begins anew."""
    goals = [(at + 1, 0, 0) for at in range(size - 1)] + [(size - 1,) * 3]
    return Machine(goals, [at == 0 for at in range(size)])


# Their least barred words are known.
KNOWN = [(breaking(word), word) for word in ("n", "f", "s", "nf", "sfn", "ffff", "nsnfsf", "nfs" * 20)]
KNOWN += [(falling(size), "n" * (size - 1)) for size in (2, 3, 6, 64)] + [(Machine([(0, 0, 0)], [False]), "")]
KNOWN += [(barring(losses), None) for losses in [[]] + [[loss] for loss in LONE] + [list(pair) for pair in TWINS]]
OF_SOME = [machine for machine in SOME + TWO + THREE + [machine for machine, word in KNOWN] if machine.size < 12]


def barred_words(machine, rounds):
    """All barred words of so many letters, as Python sorts them."""
    living = machine.living()
    return [word for word in words_of(rounds) if machine.path(word)[-1] not in living]


def is_enough(machine, rounds):
    """Whether there is a way of playing, by looking at what the players can know; not by barred words.

    What a player knows is its number, and the wishes: both; the own one alone for who has never heard. Who has to end
    alike is put together; a way is there unless who has to end on 0 is then together with who has to end on 1.
    """
    most, living = 3 ** rounds, machine.living()
    together = {}

    def root(knows):
        while together.setdefault(knows, knows) != knows:
            knows = together[knows]
        return knows

    def known(number, wishes):
        return (number, wishes[0]) if number == 0 else (number, wishes[1]) if number == most else (number,) + wishes

    ways = [(numbers(word), wishes) for word in words_of(rounds) for wishes in WISHES if machine.path(word)[-1] in living]
    for (first, second), wishes in ways:
        together[root(known(first, wishes))] = root(known(second, wishes))
    due = {(root(known(number, wishes)), wishes[0]) for pair, wishes in ways for number in pair if wishes[0] == wishes[1]}
    return len({knows for knows, wish in due}) == len(due)


def least_place(machine, rounds):
    """The least place of a barred word of so many letters, from the places behind one fate, two, and so on."""
    living = machine.living()
    # By the state, and by whether the place is odd: the least place of a barred word behind it, from there on.
    least = {(state, odd): 0 for state in range(machine.size) for odd in (0, 1) if state not in living}
    for many in range(rounds):
        ahead = {}
        for state, odd in itertools.product(range(machine.size), (0, 1)):
            goals = dict(zip("nfs", machine.goals[state]))
            ways = [(at * 3 ** many + least[goals[fate], (3 * odd + at) % 2])
                    for at, fate in enumerate("fns" if odd else "snf") if (goals[fate], (3 * odd + at) % 2) in least]
            if ways:
                ahead[state, odd] = min(ways)
        least = ahead
    return least.get((0, 0))


class Beginnings(Case):
    def test_least_barred_word(self):
        for machine in OF_SOME:
            barred = [word for rounds in range(6) for word in barred_words(machine, rounds)[:1]]
            if barred:
                self.told(barred[0], barred_beginning, machine.rule)
                self.told(len(barred[0]), least_rounds, machine.rule)
            else:
                told = barred_beginning(machine.rule)
                self.assertTrue(told is None or len(told) >= 6)

    def test_known_ones(self):
        for machine, word in KNOWN:
            self.told(word, barred_beginning, machine.rule)
            self.told(word if word is None else len(word), least_rounds, machine.rule)

    def test_none_only_if_all_states_let_some(self):
        for machine in SOME + LARGE:
            reached = machine.reached()[0] | {0}
            self.assertEqual(barred_beginning(machine.rule) is None, reached <= machine.living())

    def test_large_ones(self):
        for machine in LARGE:
            told = barred_beginning(machine.rule)
            self.told(told, barred_beginning, Law(machine.rule.text))
            if told is not None:
                path = machine.path(told)
                self.assertEqual([state in machine.living() for state in path], [True] * len(told) + [False])

    def test_as_python_sorts(self):
        # Of words of one length f comes ahead of n, and n ahead of s.
        for fates, least in (("nf", "f"), ("ns", "n"), ("fs", "f"), ("s", "s")):
            rows = [tuple(1 if fate in fates else 0 for fate in "nfs"), (1, 1, 1)]
            self.told(least, barred_beginning, Machine(rows, [True, False]).rule)
        # sf comes ahead of sn, nothing of a greater length, and the ways by n are longer.
        rows = [(1, 0, 2), (2, 0, 0), (3, 3, 0), (3, 3, 3)]
        self.told("sf", barred_beginning, Machine(rows, [True, True, True, False]).rule)

    def test_law_that_lets_nothing(self):
        self.told("", barred_beginning, NEVER)
        self.told(0, least_rounds, NEVER)
        # An often state that does not come again lets nothing.
        self.told("", barred_beginning, Law("law\nstate a often\non n b\non f b\non s b\nstate b\non n b\non f b\non s b"))

    def test_law_that_lets_all(self):
        self.told(None, barred_beginning, EVERY)
        self.told(None, least_rounds, EVERY)

    def test_states_to_which_no_word_leads(self):
        self.told(None, barred_beginning, Machine([(0, 0, 0), (1, 1, 1)], [True, False]).rule)
        self.told(0, least_rounds, Machine([(0, 0, 0), (1, 1, 1)], [False, True]).rule)


class Enough(Case):
    def test_by_what_players_can_know(self):
        for machine in TWO[::3] + THREE[::4] + SOME[::5] + [machine for machine, word in KNOWN if machine.size < 12]:
            least = least_rounds(machine.rule)
            for rounds in range(5):
                self.assertEqual(is_enough(machine, rounds), least is not None and rounds >= least)

    def test_barred_places_of_least_rounds(self):
        for machine in OF_SOME:
            least = least_rounds(machine.rule)
            for rounds in range(5):
                self.assertEqual(barred_places(machine.rule, rounds) != (), least is not None and rounds >= least)


class WhyRounds(Case):
    def test_what_is_told_is_right(self):
        for machine in OF_SOME + LARGE:
            told = why_rounds(machine.rule)
            self.told(told, why_rounds, Law(machine.rule.text))
            self.told(True, shows_why_rounds, machine.rule, told)
            living = machine.living()
            reached = sorted((machine.names[state], state) for state in machine.reached()[0] | {0})
            if told[0] == "broken":
                self.assertEqual(len(told[1]), least_rounds(machine.rule))
                self.assertNotIn(machine.path(told[1])[-1], living)
            else:
                self.assertEqual((told[0], [name for name, loss in told[1]]), ("whole", [name for name, state in reached]))
                for (name, state), row in zip(reached, told[1]):
                    self.assertEqual(len(row), 2)
                    self.assertTrue(machine.lets(row[1], state))

    def test_broken_ones(self):
        for machine in SOME + [machine for machine, word in KNOWN if machine.size < 12]:
            least = least_rounds(machine.rule)
            for rounds in range(5):
                barred = barred_words(machine, rounds)
                for word in words_of(rounds):
                    right = rounds == least and word in barred
                    self.told(right, shows_why_rounds, machine.rule, ("broken", word))

    def test_words_that_go_on_from_barred_ones_are_not_right(self):
        for machine, word in KNOWN:
            if word is not None:
                self.told(True, shows_why_rounds, machine.rule, ("broken", word))
                for near in (word + "n", word + "f", word[:-1] + "x", word.upper() + " ", list(word), (word,), None, True, 0):
                    self.told(False, shows_why_rounds, machine.rule, ("broken", near))
                self.told(word == "", shows_why_rounds, machine.rule, ("broken", word[1:]))
                for near in (("broken",), ("broken", word, word), ["broken", word], ("whole", word), ("Broken", word), word,
                             (word, "broken"), ("whole", ()), ("", word), (None, word), (True, word)):
                    self.told(False, shows_why_rounds, machine.rule, near)

    def test_whole_ones(self):
        losses = losses_up_to(1, 2)
        for machine in OF_SOME:
            word, rows = why_rounds(machine.rule)
            if word == "whole":
                for at, (name, _) in enumerate(rows):
                    for loss in losses:
                        value = ("whole", rows[:at] + ((name, loss),) + rows[at + 1:])
                        right = machine.lets(loss, machine.names.index(name))
                        self.told(right, shows_why_rounds, machine.rule, value)

    def test_nearly_whole_ones(self):
        for machine in SOME + [machine for machine, word in KNOWN]:
            word, rows = why_rounds(machine.rule)
            if word == "whole":
                near = [rows[1:], rows[:-1], rows + rows[-1:], rows[:1] + rows, rows + (("zzz", ("", "n")),), list(rows), (rows,),
                        dict(rows), None, True, rows + (None,), ()]
                near += [rows[::-1]] if len(rows) > 1 else []
                for at, (name, loss) in enumerate(rows):
                    others = [("zzz", loss), (name, list(loss)), (name, (loss,)), (name, None), (name,), (name, loss, loss), [name, loss],
                              (loss, name), (name,) + loss, None, name, loss, (None, loss), ((name,), loss), (name, (loss[0], "")),
                              (name, (loss[0], loss[1], "")), (name, ("n" * 201, loss[1])), (name, (loss[0], loss[1] * 201)),
                              (name, (loss[0] + loss[1] * 201, loss[1]))]
                    near += [rows[:at] + (row,) + rows[at + 1:] for row in others]
                for value in near:
                    self.told(False, shows_why_rounds, machine.rule, ("whole", value))
                for value in (["whole", rows], ("whole",), ("whole", rows, rows), ("broken", rows), (rows, "whole"), ("Whole", rows)):
                    self.told(False, shows_why_rounds, machine.rule, value)
                longer = tuple((name, (head, ring * (200 // len(ring)))) for name, (head, ring) in rows)
                self.told(True, shows_why_rounds, machine.rule, ("whole", longer))

    def test_unreached_states_have_no_rows(self):
        machine = Machine([(1, 0, 0), (1, 1, 0), (2, 2, 2)], [True, False, True])
        one, other, unreached = machine.names
        rows = ((one, ("", "f")), (other, ("s", "f")))
        self.told(True, shows_why_rounds, machine.rule, ("whole", rows))
        self.told(False, shows_why_rounds, machine.rule, ("whole", rows + ((unreached, ("", "n")),)))

    def test_rows_by_name_not_as_they_stand(self):
        rule = Law("law\nstate b often\non n b\non f a\non s b\nstate a\non n b\non f b\non s b")
        self.assertEqual([name for name, loss in why_rounds(rule)[1]], ["a", "b"])
        right = (("a", ("n", "n")), ("b", ("", "n")))
        self.told(True, shows_why_rounds, rule, ("whole", right))
        self.told(False, shows_why_rounds, rule, ("whole", right[::-1]))

    def test_losses_from_the_state_on(self):
        # From a, s for ever is let, from b it is not; the law itself lets it.
        rule = Law("law\nstate a often\non n b\non f a\non s a\nstate b\non n b\non f a\non s b")
        for first, second, right in (
                (("", "s"), ("", "s"), False), (("", "s"), ("f", "s"), True), (("", "n"), ("", "f"), False),
                (("", "nf"), ("", "nf"), True), (("s", "n"), ("", "f"), False)):
            self.told(right, shows_why_rounds, rule, ("whole", (("a", first), ("b", second))))

    def test_values_of_any_kind(self):
        for value in VALUES + tuple(nested(value, 28) for value in VALUES):
            for rule, word in ((EVERY, None), (NEVER, ""), (breaking("f").rule, "f")):
                self.told(False, shows_why_rounds, rule, value)
                self.told(False, shows_why_rounds, rule, ("whole", value))
                self.told(value is not None and value == word, shows_why_rounds, rule, ("broken", value))
        self.told(True, shows_why_rounds, EVERY, ("whole", (("a", ("", "n")),)))
        for value in NO_LOSSES:
            self.told(False, shows_why_rounds, EVERY, ("whole", (("a", value),)))
        self.told(True, shows_why_rounds, NEVER, ("broken", ""))
        self.assertIs(shows_why_rounds(value=("broken", ""), rule=NEVER), True)


class Many(Case):
    def test_by_counting(self):
        for machine in OF_SOME[::2]:
            for rounds in range(5):
                self.told(3 ** rounds - len(barred_words(machine, rounds)), many_beginnings, machine.rule, rounds)

    def test_great_numbers(self):
        for machine in SOME[::3] + LARGE[::3] + [machine for machine, word in KNOWN]:
            many = [1 if state in machine.living() else 0 for state in range(machine.size)]
            for rounds in range(201):
                if rounds in (0, 1, 2, 7, 63, 64, 100, 199, 200):
                    self.told(many[0], many_beginnings, machine.rule, rounds)
                many = [sum(many[goal] for goal in row) for row in machine.goals]

    def test_told_numbers(self):
        for rounds in (0, 1, 2, 100, 200):
            self.told(3 ** rounds, many_beginnings, EVERY, rounds)
            self.told(0, many_beginnings, NEVER, rounds)
            self.told(3 ** rounds - 3 ** max(0, rounds - 2) * (rounds > 1), many_beginnings, breaking("nf").rule, rounds)
        # With one lost letter at most: none, or one of two in some round.
        once = Machine([(0, 1, 1), (1, 2, 2), (2, 2, 2)], [True, True, False])
        for rounds in range(201):
            self.told(2 * rounds + 1, many_beginnings, once.rule, rounds)


class Places(Case):
    def test_places_of_barred_words(self):
        for machine in OF_SOME[::3]:
            for rounds in range(5):
                wanted = tuple(sorted(place(word) for word in barred_words(machine, rounds)))
                self.told(wanted, barred_places, machine.rule, rounds)

    def test_five_rounds_and_six(self):
        for machine in SOME[::9] + LARGE[::2] + [machine for machine, word in KNOWN if word is not None]:
            living = machine.living()
            for rounds in (5, 6):
                wanted = tuple(at for at, word in enumerate(whole_row(rounds)) if machine.path(word)[-1] not in living)
                self.told(wanted, barred_places, machine.rule, rounds)

    def test_all_and_none(self):
        for rounds in range(7):
            self.told((), barred_places, EVERY, rounds)
            self.told(tuple(range(3 ** rounds)), barred_places, NEVER, rounds)


class Cut(Case):
    def test_first_of_barred_places(self):
        for machine in OF_SOME:
            least = least_rounds(machine.rule)
            for rounds in range(7):
                if least is None or rounds < least:
                    self.refused(TooFew, least, cut, machine.rule, rounds)
                else:
                    self.told(barred_places(machine.rule, rounds)[0], cut, machine.rule, rounds)

    def test_many_rounds(self):
        for machine in OF_SOME[::12] + LARGE + [machine for machine, word in KNOWN]:
            least = least_rounds(machine.rule)
            for rounds in (7, 20, 62, 63, 64, 100, 199, 200):
                if least is None or rounds < least:
                    self.refused(TooFew, least, cut, machine.rule, rounds)
                else:
                    self.told(least_place(machine, rounds), cut, machine.rule, rounds)
                    word = word_at(rounds, cut(machine.rule, rounds))
                    self.assertNotIn(machine.path(word)[-1], machine.living())

    def test_told_places(self):
        for rounds in range(201):
            self.told(0, cut, NEVER, rounds)
            self.refused(TooFew, None, cut, EVERY, rounds)
        for rounds in range(1, 201):
            self.told(0, cut, breaking("s").rule, rounds)
            self.told(3 ** (rounds - 1), cut, breaking("n").rule, rounds)
            self.told(2 * 3 ** (rounds - 1), cut, breaking("f").rule, rounds)
        late = falling(64).rule
        for rounds in range(63):
            self.refused(TooFew, 63, cut, late, rounds)
        self.told(place("n" * 63), cut, late, 63)


class Ended(Case):
    def test_all_words(self):
        for machine in OF_SOME[::2]:
            least = least_rounds(machine.rule)
            for rounds in range(5):
                if least is not None and least <= rounds:
                    level, barred = min(map(place, barred_words(machine, rounds))), barred_words(machine, rounds)
                    for word, wishes in itertools.product(words_of(rounds), WISHES):
                        if word in barred:
                            self.refused(Barred, word, ended, machine.rule, rounds, wishes, word)
                            continue
                        sides = {number <= level for number in numbers(word)}
                        self.assertEqual(len(sides), 1)
                        self.told(wishes[0] if sides == {True} else wishes[1], ended, machine.rule, rounds, wishes, word)

    def test_it_is_a_way_of_playing(self):
        # Who has a number, and knows these wishes, or the own one alone if it never heard, always ends alike.
        for machine in OF_SOME[::3]:
            least = least_rounds(machine.rule)
            for rounds in range(5):
                if least is None or least > rounds:
                    continue
                ends, living = {}, machine.living()
                for word, wishes in itertools.product(words_of(rounds), WISHES):
                    if machine.path(word)[-1] in living:
                        end = ended(machine.rule, rounds, wishes, word)
                        self.assertIn(end, wishes)
                        for number in numbers(word):
                            never = {0: 0, 3 ** rounds: 1}.get(number)
                            knows = (number, wishes if never is None else wishes[never])
                            self.assertEqual(ends.setdefault(knows, end), end)

    def test_long_words(self):
        rule = breaking("nf").rule
        for rounds in (2, 100, 200):
            more = rounds - 2
            level = cut(rule, rounds)
            for word in ("ns" + "n" * more, "ss" + "f" * more, "ff" + "s" * more, "nn" + "nfs" * 66):
                word = word[:rounds]
                self.told(0 if place(word) < level else 1, ended, rule, rounds, (0, 1), word)
            self.refused(Barred, "nf" + "s" * more, ended, rule, rounds, (0, 1), "nf" + "s" * more)
        self.told(0, ended, rule, 200, (0, 1), "s" * 200)
        self.told(1, ended, rule, 200, (0, 1), "f" * 200)

    def test_wishes_alike(self):
        for machine, word in KNOWN[:6]:
            for other in words_of(4):
                if other not in barred_words(machine, 4):
                    self.told(0, ended, machine.rule, 4, (0, 0), other)
                    self.told(1, ended, machine.rule, 4, (1, 1), other)

    def test_law_that_lets_nothing(self):
        for rounds in range(4):
            for word in words_of(rounds):
                self.refused(Barred, word, ended, NEVER, rounds, (0, 1), word)


class Refusals(Case):
    def test_numbers(self):
        for value in NO_INTEGERS + (-1, 201, 202, -200, 10 ** 11, -10 ** 11):
            for rule in (EVERY, NEVER, breaking("f").rule):
                self.refused(BadNumber, value, many_beginnings, rule, value)
                self.refused(BadNumber, value, many_beginnings, rounds=value, rule=rule)
                self.refused(BadNumber, value, cut, rule, value)
                self.refused(BadNumber, value, ended, rule, value, (0, 1), "n")
        for value in NO_INTEGERS + (-1, 7, 8, 200, 201, 10 ** 11, -10 ** 11):
            for rule in (EVERY, NEVER, breaking("f").rule):
                self.refused(BadNumber, value, barred_places, rule, value)
                self.refused(BadNumber, value, barred_places, rounds=value, rule=rule)

    def test_too_few(self):
        for machine, word in KNOWN:
            least = word if word is None else len(word)
            for rounds in range(201 if word is None else least):
                self.refused(TooFew, least, cut, machine.rule, rounds)
                if rounds % 9 < 3:
                    self.refused(TooFew, least, ended, machine.rule, rounds, (0, 1), "n" * rounds)

    def test_wishes_and_words(self):
        rule = breaking("sf").rule
        for value in NO_WISHES:
            self.refused(BadWishes, value, ended, rule, 2, value, "nn")
            self.refused(BadWishes, value, ended, word="nn", wishes=value, rounds=2, rule=rule)
        for value in NO_WORDS + ("", "n", "nnn", "sfn", "s", "n" * 200):
            self.refused(BadWord, value, ended, rule, 2, (0, 1), value)
            self.refused(BadWord, value, ended, word=value, wishes=(1, 0), rounds=2, rule=rule)
        for value in NO_WORDS + ("", "n" * 199):
            self.refused(BadWord, value, ended, rule, 200, (0, 1), value)

    def test_the_first_of_several_stands_first(self):
        rule = breaking("sf").rule
        for value in (-1, 201, True, None, "2"):
            self.refused(BadNumber, value, ended, rule, value, None, None)
            self.refused(BadNumber, value, ended, EVERY, value, (0, 2), "x")
            self.refused(BadNumber, value, cut, EVERY, value)
        for rounds in (0, 1):
            self.refused(TooFew, 2, ended, rule, rounds, None, None)
            self.refused(TooFew, 2, ended, rule, rounds, (0, 1), "sf")
        self.refused(TooFew, None, ended, EVERY, 5, (True, False), "sf")
        for value in NO_WISHES:
            self.refused(BadWishes, value, ended, rule, 2, value, "x")
            self.refused(BadWishes, value, ended, rule, 2, value, "sf")
            self.refused(BadWishes, value, ended, NEVER, 0, value, None)
        # What goes on from a barred word, but is too long, is no word of so many letters.
        self.refused(BadWord, "sfn", ended, rule, 2, (0, 1), "sfn")
        self.refused(BadWord, "sf", ended, rule, 3, (0, 1), "sf")
        self.refused(Barred, "sfn", ended, rule, 3, (0, 1), "sfn")
