"""Verdicts: fair losses and twins that laws bar, and what shows whether there is a way of playing."""

import itertools

from tests.cases import Case
from tests.samples import (
    barring, drawn_machines, EVERY, LONE, losses_up_to, Machine, machines_of_two, mild_machines, nested, NEVER, NO_BARRED,
    turned, TWINS, VALUES)
from twofarplayers.laws import Law
from twofarplayers.losses import least, tail
from twofarplayers.twins import are_twins, twins
from twofarplayers.verdicts import bars_fair, bars_twins, can_agree, shows_can_agree

TWO = machines_of_two()
THREE = drawn_machines(3, 300, 1)
MILD = mild_machines(4, 60, 5) + mild_machines(6, 60, 6) + mild_machines(9, 40, 7)
SOME = TWO[::9] + THREE[::7] + MILD[::2] + drawn_machines(5, 60, 2) + drawn_machines(9, 40, 3)
LARGE = drawn_machines(64, 12, 4) + mild_machines(64, 24, 8)
# Each bars just these; none of them is enough for a way of playing.
TOO_LITTLE = [
    [], [("f", "s")], [("n", "s")], [("sn", "f")], [("ff", "s"), ("n", "s")], [("f", "s"), ("n", "f")],
    [("n", "s"), ("n", "f"), ("nn", "s"), ("nn", "f")], [("f", "s"), ("nf", "s"), ("nnf", "s")], [("fs", "f"), ("fn", "s")]]


def quiet(machine):
    """The states that are reached and not often, by number."""
    reached = machine.reached()[0] | {0}
    return [state for state in range(machine.size) if state in reached and not machine.often[state]]


def lets_twins(machine):
    """Whether of all twins one at least is let, by the states to which what they have in common leads."""
    for state in machine.reached()[0] | {0}:
        for one, ever in (("f", "s"), ("s", "f")):
            if not machine.lets((one, ever), state) and not machine.lets(("n", ever), state):
                return False
    return True


def right_table(machine, value):
    """Whether the value is a right table, by the document's words, one after the other."""
    states = quiet(machine)
    if type(value) is not tuple or len(value) != len(states):
        return False
    rows = {}
    for state, row in zip(states, value):
        if type(row) is not tuple or len(row) != 3 or type(row[0]) is not str or row[0] != machine.names[state]:
            return False
        if type(row[1]) is not int or row[1] < 0 or type(row[2]) is not str or row[2] not in ("f", "s"):
            return False
        rows[state] = row[1:]
    for state, (rank, kept) in rows.items():
        for goal, fate in zip(machine.goals[state], "nfs"):
            if goal in rows and not rows[goal][0] < rank:
                if not (rows[goal][0] == rank and fate == kept and rows[goal][1] == kept):
                    return False
    return machine.lets(("", "f")) and machine.lets(("", "s")) and lets_twins(machine)


def right_barred(machine, value):
    """Whether these are barred ones of the machine that show a way; value is made of losses."""
    if any(machine.lets(loss) for loss in value):
        return False
    if len(value) == 2:
        return are_twins(*value)
    return len(value) == 1 and (tail(value[0]) == "fair" or least(value[0]) in (("", "f"), ("", "s")))


def all_tables(machine):
    """All tables with ranks up to the number of their rows."""
    names = [machine.names[state] for state in quiet(machine)]
    kinds = list(itertools.product(range(len(names) + 1), "fs"))
    for told in itertools.product(kinds, repeat=len(names)):
        yield tuple((name, rank, fate) for name, (rank, fate) in zip(names, told))


def near_tables(machine, table):
    """Tables that are nearly this one."""
    names = [row[0] for row in table]
    for name in [name for name in machine.names if name not in names][:2] + names[:2] + ["zzz", ""]:
        yield table + ((name, 0, "f"),)
        yield ((name, 99, "s"),) + table
    yield from (table + ((),), table + (None,), list(table), tuple(reversed(table)), table[1:], table[:-1], (table,), table * 2)
    for at, (name, rank, fate) in enumerate(table):
        rows = [(name, more, fate) for more in (rank - 2, rank - 1, rank + 1, rank + 2, 0, -1, 10 ** 11)]
        rows += [(name, more, fate) for more in (True, False, None, str(rank), (rank,), bool(rank))]
        rows += [(name, rank, other) for other in ("f", "s", "n", "", "fs", "F", None, ("f",), ["f"], 0)]
        rows += [(other, rank, fate) for other in names + ["", "zzz", None, 0, name + " ", (name,)]]
        rows += [[name, rank, fate], (name, rank), (name, rank, fate, fate), (name, fate, rank), (rank, name, fate), (), name]
        for row in rows:
            yield table[:at] + (row,) + table[at + 1:]
        yield table[:at] + table[at + 1:]
        yield table[:at] + (table[at],) + table[at:]


class BarsFair(Case):
    def test_told_ones_are_barred_and_fair(self):
        for machine in TWO + THREE + SOME + MILD + LARGE:
            loss = bars_fair(machine.rule)
            self.told(loss, bars_fair, Law(machine.rule.text))
            if loss is not None:
                self.assertFalse(machine.lets(loss))
                self.assertEqual(tail(loss), "fair")

    def test_none_is_told_only_if_there_is_none(self):
        for machines, most in ((TWO, 4), (THREE[::6], 4), (SOME[::4], 3)):
            losses = [loss for loss in losses_up_to(1, most) if tail(loss) == "fair"]
            for machine in machines:
                if bars_fair(machine.rule) is None:
                    self.assertTrue(all(machine.lets(loss) for loss in losses))

    def test_lone_losses(self):
        for loss in LONE:
            found = bars_fair(barring([loss]).rule)
            self.assertEqual(found if found is None else least(found), least(loss) if tail(loss) == "fair" else None)
        for losses in TOO_LITTLE + list(TWINS) + [[("", "f"), ("", "s")]]:
            self.told(None, bars_fair, barring(losses).rule)

    def test_rings_of_several_states(self):
        for size in (1, 2, 7, 60):
            for ring in ("f" * size + "s", "s" * size + "n", "n" + "f" * size):
                self.assertEqual(least(bars_fair(barring([("sf", ring)]).rule)), least(("sf", ring)))
            self.told(None, bars_fair, barring([("sn", "f" * size)]).rule)

    def test_rings_of_many_fates(self):
        # f and s stand each behind the other, half a ring of 63 states away: other ways than along the ring lead off.
        goals = [(63, (at + 1) % 63, 63) for at in range(63)] + [(63, 63, 63)]
        goals[31] = (63, 63, 32)
        told = bars_fair(Machine(goals, [False] * 63 + [True]).rule)
        self.assertEqual(least(told), ("", "f" * 31 + "s" + "f" * 31))
        self.told(None, bars_fair, Machine(goals[:31] + [(63, 32, 63)] + goals[32:], [False] * 63 + [True]).rule)

    def test_two_rings_through_one_state(self):
        # From a, f leads round by b, and s by c: neither ring is fair alone, both together are.
        rows = [(3, 1, 2), (3, 0, 3), (3, 3, 0), (3, 3, 3)]
        machine = Machine(rows, [False, False, False, True])
        told = bars_fair(machine.rule)
        self.assertFalse(machine.lets(told))
        self.assertEqual(tail(told), "fair")
        for at in (1, 2):
            often = [state in (at, 3) for state in range(4)]
            self.told(None, bars_fair, Machine(rows, often).rule)

    def test_states_to_which_no_word_leads(self):
        rows = [(0, 0, 0), (1, 1, 1)]
        self.told(None, bars_fair, Machine(rows, [True, False]).rule)
        self.told(("no", ()), can_agree, Machine(rows, [True, False]).rule)
        self.assertIsNotNone(bars_fair(Machine(rows, [False, True]).rule))

    def test_a_step_over_often_states_is_no_ring(self):
        machine = Machine([(1, 1, 1), (0, 0, 0)], [False, True])
        self.told(None, bars_fair, machine.rule)
        self.assertEqual(can_agree(machine.rule)[0], "no")


class BarsTwins(Case):
    def test_told_ones_are_barred_twins(self):
        for machine in TWO + THREE + SOME + MILD + LARGE:
            told = bars_twins(machine.rule)
            self.told(told, bars_twins, Law(machine.rule.text))
            if told is not None:
                self.assertEqual(len(told), 2)
                self.assertTrue(are_twins(*told))
                self.assertFalse(machine.lets(told[0]) or machine.lets(told[1]))

    def test_none_is_told_only_if_there_is_none(self):
        losses = [loss for loss in losses_up_to(3, 1) if twins(loss)]
        for machine in TWO + THREE[::3] + SOME:
            if bars_twins(machine.rule) is None:
                for loss in losses:
                    self.assertTrue(machine.lets(loss) or machine.lets(twins(loss)[0]))

    def test_against_each_state(self):
        for machine in TWO[::2] + THREE + SOME:
            self.assertEqual(bars_twins(machine.rule) is None, lets_twins(machine))

    def test_just_these_twins(self):
        for one, other in TWINS + ((("n" * 30 + "f", "s"), ("n" * 31, "s")),):
            told = bars_twins(barring([one, other]).rule)
            self.assertEqual(sorted(told), sorted([least(one), least(other)]))
            self.assertEqual(sorted(bars_twins(barring([other, ("", "nf"), one]).rule)), sorted(told))

    def test_one_of_twins_is_not_enough(self):
        for losses in TOO_LITTLE + [[loss] for loss in LONE] + [[loss] for pair in TWINS for loss in pair]:
            self.told(None, bars_twins, barring(losses).rule)


class CanAgree(Case):
    def test_what_is_told_is_right(self):
        for machine in TWO + THREE + SOME + MILD + LARGE:
            word, shown = told = can_agree(machine.rule)
            self.told(told, can_agree, Law(machine.rule.text))
            self.told(True, shows_can_agree, machine.rule, told)
            # What shows one of both is judged here without the program, so that both words are.
            if word == "yes":
                self.assertTrue(right_barred(machine, shown))
            else:
                self.assertEqual(word, "no")
                self.assertTrue(right_table(machine, shown))

    def test_just_one_of_both_can_be_shown(self):
        losses = losses_up_to(1, 4)
        groups = [(loss,) for loss in losses] + [(loss, twins(loss)[0]) for loss in losses_up_to(2, 1) if twins(loss)]
        for machine in TWO[::2]:
            tables = any(right_table(machine, table) for table in all_tables(machine))
            barred = any(right_barred(machine, group) for group in groups)
            self.assertNotEqual(tables, barred)
            self.assertEqual(can_agree(machine.rule)[0], "no" if tables else "yes")

    def test_a_table_is_right_only_if_there_is_no_way(self):
        for machine in THREE[::3] + MILD[:60]:
            tables = any(right_table(machine, table) for table in all_tables(machine))
            self.assertEqual(can_agree(machine.rule)[0], "no" if tables else "yes")

    def test_laws_that_bar_one_loss(self):
        for loss in LONE:
            word, shown = can_agree(barring([loss]).rule)
            self.assertEqual((word, len(shown), least(shown[0])), ("yes", 1, least(loss)))

    def test_laws_that_bar_twins(self):
        for one, other in TWINS:
            word, shown = can_agree(barring([one, other]).rule)
            self.assertEqual((word, sorted(shown)), ("yes", sorted([least(one), least(other)])))

    def test_laws_that_bar_too_little(self):
        for losses in TOO_LITTLE + [[loss] for pair in TWINS for loss in pair]:
            self.assertEqual(can_agree(barring(losses).rule)[0], "no")

    def test_turned_laws(self):
        for machine in TWO + THREE + SOME + MILD:
            self.assertEqual(can_agree(machine.rule)[0], can_agree(turned(machine).rule)[0])

    def test_laws_that_let_more(self):
        for machine in TWO + THREE + SOME + MILD:
            if can_agree(machine.rule)[0] == "no":
                for more in range(machine.size):
                    often = [often or state == more for state, often in enumerate(machine.often)]
                    self.assertEqual(can_agree(Machine(machine.goals, often).rule)[0], "no")

    def test_laws_that_let_nothing_or_all(self):
        self.told(("no", ()), can_agree, EVERY)
        self.assertEqual(can_agree(NEVER)[0], "yes")
        self.told(None, bars_fair, EVERY)
        self.told(None, bars_twins, EVERY)
        self.assertEqual(tail(bars_fair(NEVER)), "fair")
        self.assertTrue(are_twins(*bars_twins(NEVER)))


class Shown(Case):
    def test_all_small_tables(self):
        for machine in TWO[::2] + THREE[::9] + [machine for machine in MILD if len(quiet(machine)) < 3]:
            for table in all_tables(machine):
                self.told(right_table(machine, table), shows_can_agree, machine.rule, ("no", table))

    def test_near_tables(self):
        for machine in SOME + [barring(losses) for losses in TOO_LITTLE]:
            word, table = can_agree(machine.rule)
            if word == "no":
                for near in near_tables(machine, table):
                    self.told(right_table(machine, near), shows_can_agree, machine.rule, ("no", near))
                for near in (("No", table), ("yes", table), (table, "no"), ["no", table], ("no", table, table), ("no",), table):
                    self.told(False, shows_can_agree, machine.rule, near)

    def test_ranks_may_be_otherwise(self):
        for machine in SOME:
            word, table = can_agree(machine.rule)
            if word == "no":
                for factor, more in ((1, 1), (2, 0), (3, 5), (10 ** 6, 7)):
                    other = tuple((name, factor * rank + more, fate) for name, rank, fate in table)
                    self.told(True, shows_can_agree, machine.rule, ("no", other))

    def test_steps_that_keep_rank(self):
        # Behind n the second and the third state are a ring by s; from that, f leads to the fourth, a ring by f alone.
        machine = Machine([(1, 4, 4), (4, 3, 2), (4, 4, 1), (4, 3, 4), (4, 4, 4)], [True, False, False, False, True])
        names = machine.names
        right = ((names[1], 1, "s"), (names[2], 1, "s"), (names[3], 0, "f"))
        self.told(True, shows_can_agree, machine.rule, ("no", right))
        self.assertEqual(can_agree(machine.rule)[0], "no")
        for at, row in enumerate(right):
            for rank, fate in itertools.product(range(3), "fs"):
                near = right[:at] + ((row[0], rank, fate),) + right[at + 1:]
                self.told(near == right, shows_can_agree, machine.rule, ("no", near))

    def test_rank_stays_only_beside_the_same_fate(self):
        # a leads to b by f, and b to itself by s.
        machine = Machine([(2, 1, 2), (2, 2, 1), (2, 2, 2)], [False, False, True])
        first, second = machine.names[:2]
        for rank, fate, wanted in ((0, "f", False), (0, "s", False), (1, "f", True), (1, "s", True)):
            self.told(wanted, shows_can_agree, machine.rule, ("no", ((first, rank, fate), (second, 0, "s"))))
        for other in "fn":
            self.told(False, shows_can_agree, machine.rule, ("no", ((first, 1, "f"), (second, 0, other))))

    def test_tables_of_laws_that_bar_ends_or_twins(self):
        for losses in [[("", "f")], [("", "s")]] + list(TWINS):
            machine = barring(losses)
            names = [machine.names[state] for state in quiet(machine)]
            fates = ["s" if tail(losses[0]) == "s" else "f"] * len(names)
            for top in (0, len(names)):
                table = tuple((name, max(0, top - at), fate) for at, (name, fate) in enumerate(zip(names, fates)))
                self.told(False, shows_can_agree, machine.rule, ("no", table))
                self.told(False, right_table, machine, table)

    def test_all_small_barred_ones(self):
        losses = losses_up_to(1, 2)
        for machine in TWO[::13] + THREE[::20]:
            for loss in losses:
                for value in ((loss,), (loss,) + twins(loss), twins(loss) + (loss,), (loss, loss)):
                    self.told(right_barred(machine, value), shows_can_agree, machine.rule, ("yes", value))

    def test_barred_ones_of_laws_that_bar_just_these(self):
        others = list(LONE) + [loss for pair in TWINS for loss in pair]
        for barred in [(loss,) for loss in LONE] + list(TWINS):
            rule = barring(barred).rule
            for value in (barred, barred[::-1], tuple((head + ring, ring * 3) for head, ring in barred), tuple(map(least, barred))):
                self.told(True, shows_can_agree, rule, ("yes", value))
            for loss in others:
                alike = len(barred) == 1 and least(loss) == least(barred[0])
                self.told(alike, shows_can_agree, rule, ("yes", (loss,)))
                pair = len(barred) == 2 and are_twins(loss, barred[0])
                self.told(pair, shows_can_agree, rule, ("yes", (loss, barred[0])))
            for loss in barred:
                self.told(len(barred) == 1, shows_can_agree, rule, ("yes", (loss,)))
            for value in (list(barred), barred + barred, barred + (barred[0],), (barred,), tuple(map(list, barred)), barred[0]):
                self.told(False, shows_can_agree, rule, ("yes", value))
            self.told(False, shows_can_agree, rule, ("no", barred))
            self.told(False, shows_can_agree, rule, ["yes", barred])
            self.told(False, shows_can_agree, rule, ("yes",) + barred)

    def test_one_of_twins_of_which_one_is_let(self):
        for one, other in TWINS:
            for rule in (barring([one]).rule, barring([other]).rule):
                for value in ((one, other), (other, one), (one,), (other,)):
                    self.told(False, shows_can_agree, rule, ("yes", value))

    def test_losses_of_200_fates_and_of_201(self):
        for value in ((("n" * 200, "n"),), (("", "n" * 200),), (("f" * 200, "sf" * 100),), (("n" * 200, "s"), ("n" * 199 + "f", "s"))):
            self.told(True, shows_can_agree, NEVER, ("yes", value))
        for value in ((("n" * 201, "n"),), (("", "n" * 201),), (("n" * 201, "s"), ("n" * 200 + "f", "s")),
                      (("f", "s" * 201), ("n", "s")), (("f", "s"), ("n", "s" * 201)), (("f", "s"), ("n" + "s" * 200, "s"))):
            self.told(False, shows_can_agree, NEVER, ("yes", value))

    def test_values_of_any_kind(self):
        for value in VALUES + tuple(nested(value, 28) for value in VALUES):
            for rule in (EVERY, NEVER):
                self.told(False, shows_can_agree, rule, value)
                self.told(value == () and rule == EVERY, shows_can_agree, rule, ("no", value))
                self.told(value == (("", "n"),) and rule == NEVER, shows_can_agree, rule, ("yes", value))
        for value in NO_BARRED:
            self.told(False, shows_can_agree, NEVER, ("yes", value))
        self.told(True, shows_can_agree, EVERY, ("no", ()))
        self.assertIs(shows_can_agree(value=("yes", (("", "n"),)), rule=NEVER), True)
