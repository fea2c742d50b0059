"""Laws out of laws: what they let, how many states they have, and which of them are often."""

import itertools

from tests.bench_samples import ring
from tests.cases import Case
from tests.samples import (
    EVERY, LONE, Machine, NEVER, NO_LOSSES, SURE, TWINS, VALUES, drawn_machines, letters, losses_up_to, machines_of_two,
    mild_machines, nested)
from tests.samples import barring as machine_barring
from tests.samples import turned as turned_machine
from twofarplayers.errors import BadLoss, TooMany
from twofarplayers.laws import Law, lets
from twofarplayers.lawlots import barring, both, either, lets_all, shows_lets_all, turned
from twofarplayers.losses import are_alike, least
from twofarplayers.verdicts import can_agree

FATES = "nfs"
TWO = machines_of_two()
SOME = TWO[::29] + drawn_machines(3, 10, 1) + drawn_machines(5, 6, 2) + mild_machines(5, 4, 3)
SOME += [machine_barring([loss]) for loss in LONE[::4]] + [machine_barring(list(pair)) for pair in TWINS[::3]]
COUPLES = list(itertools.product(SOME[::2], SOME[1::2])) + list(zip(SOME, SOME))
LOSSES = losses_up_to(1, 3) + [("nfs", "ns"), ("ffsn", "s"), ("nnff", "f"), ("", "nnfs"), ("sn", "ffsn"), ("nnn", "s"), ("nns", "f")]


def grown(start, goal_of):
    """All nodes that are reached from the start."""
    found, edge = {start}, [start]
    while edge:
        goals = {goal_of(node, fate) for node in edge for fate in range(3)} - found
        found |= goals
        edge = list(goals)
    return found


class Built(Case):
    """How the told laws are made, node by node."""

    def made_of(self, start, goal_of, is_often, function, *told):
        """The function tells a law with just these states, or how many there would be; returned is the law, or None."""
        nodes = grown(start, goal_of)
        if len(nodes) > 64:
            self.refused(TooMany, len(nodes), function, *told)
            return None
        found = function(*told)
        self.assertIs(type(found), Law)
        self.assertEqual(Law(found.text), found)
        self.assertEqual(function(*told), found)
        self.assertEqual((len(found), len(found.often)), (len(nodes), len([1 for node in nodes if is_often(node)])))
        # From the start on the law goes as the nodes do; since there are as many of both, they are the same but for names.
        places, edge = {start: found.names[0]}, [start]
        while edge:
            node = edge.pop()
            self.assertEqual(places[node] in found.often, bool(is_often(node)))
            for at, fate in enumerate(FATES):
                goal, name = goal_of(node, at), found.steps[places[node]][fate]
                if goal not in places:
                    edge.append(goal)
                self.assertEqual(places.setdefault(goal, name), name)
        self.assertEqual(len(set(places.values())), len(nodes))
        return found

    def test_turned(self):
        for machine in SOME + drawn_machines(64, 3, 4):
            found = turned(machine.rule)
            self.assertEqual(found.text, turned_machine(machine).rule.text)
            self.assertEqual(turned(found), machine.rule)
            self.assertEqual((found.names, found.often), (machine.rule.names, machine.rule.often))
            for loss in LOSSES[::5]:
                exchanged = tuple(word.replace("f", "x").replace("s", "f").replace("x", "s") for word in loss)
                self.assertEqual(lets(found, exchanged), machine.lets(loss))
        self.assertEqual(turned(Law("law\nstate b\non n a\non f a\non s b\nstate a often\non n b\non f b\non s a")).text,
                         "law\nstate b\non n a\non f b\non s a\nstate a often\non n b\non f a\non s b")

    def both_of(self, one, other):
        def goal_of(node, fate):
            here, there, waits = node
            if waits == 0 and one.often[here]:
                waits = 1
            elif waits == 1 and other.often[there]:
                waits = 0
            return (one.goals[here][fate], other.goals[there][fate], waits)
        return self.made_of((0, 0, 0), goal_of, lambda node: node[2] == 0 and one.often[node[0]], both, one.rule, other.rule)

    def either_of(self, one, other):
        return self.made_of(
            (0, 0), lambda node, fate: (one.goals[node[0]][fate], other.goals[node[1]][fate]),
            lambda node: one.often[node[0]] or other.often[node[1]], either, one.rule, other.rule)

    def barring_of(self, machine, loss):
        head, turns = least(loss)
        row = head + turns

        def goal_of(node, fate):
            state, at = node
            goal = machine.goals[state][fate]
            if at is None or row[at] != FATES[fate]:
                return (goal, None)
            return (goal, at + 1 if at + 1 < len(row) else len(head))
        return self.made_of((0, 0), goal_of, lambda node: node[1] is None and machine.often[node[0]], barring, machine.rule, loss)

    def test_both(self):
        for one, other in COUPLES:
            found = self.both_of(one, other)
            for loss in LOSSES[::4] if found else ():
                self.assertEqual(lets(found, loss), one.lets(loss) and other.lets(loss))

    def test_either(self):
        for one, other in COUPLES:
            found = self.either_of(one, other)
            for loss in LOSSES[::4] if found else ():
                self.assertEqual(lets(found, loss), one.lets(loss) or other.lets(loss))

    def test_barring(self):
        for machine in SOME:
            for loss in LOSSES[::11]:
                found = self.barring_of(machine, loss)
                for other in LOSSES[::3] + [loss] if found else ():
                    self.assertEqual(lets(found, other), machine.lets(other) and not are_alike(loss, other))

    def test_losses_told_in_several_ways(self):
        for head, turns in (("", "n"), ("f", "s"), ("nf", "fs"), ("sss", "nnf")):
            for loss in ((head, turns), (head + turns, turns), (head, turns * 3), (head + turns[0], turns[1:] + turns[0]),
                         (head + turns * 10, turns * 20)):
                self.assertEqual(barring(EVERY, loss), barring(EVERY, (head, turns)))
                self.assertEqual(len(barring(EVERY, loss)), len(head + turns) + 1)
                self.assertFalse(lets(barring(EVERY, loss), (head + turns, turns * 2)))

    def test_barring_what_is_not_let(self):
        for machine in SOME:
            for loss in LOSSES[::9]:
                if not machine.lets(loss):
                    found = self.barring_of(machine, loss)
                    for other in LOSSES[::5] if found else ():
                        self.assertEqual(lets(found, other), machine.lets(other))
        self.assertEqual([lets(barring(NEVER, ("", "n")), loss) for loss in LOSSES], [False] * len(LOSSES))
        self.assertEqual([lets(barring(SURE, ("", "n")), loss) for loss in LOSSES], [False] * len(LOSSES))

    def test_one_letter_off(self):
        for loss in LONE + tuple(loss for pair in TWINS for loss in pair):
            found = barring(EVERY, loss)
            word = letters(loss, 12)
            for at, fate in itertools.product(range(10), FATES):
                if fate != word[at]:
                    for turns in ("n", "f", "s", loss[1]):
                        self.assertTrue(lets(found, (word[:at] + fate, turns)))


class Bounds(Case):
    def test_pairs(self):
        for one, other, many in ((64, 1, 64), (1, 64, 64), (5, 13, 65), (13, 5, 65), (7, 9, 63), (63, 64, 4032), (11, 6, 66), (64, 64, 64)):
            rules = (ring(one).rule, ring(other).rule)
            for function in (either, lets_all):
                if many > 64:
                    self.refused(TooMany, many, function, *rules)
                    self.refused(TooMany, many, function, other=rules[1], rule=rules[0])
                elif function is either:
                    self.assertEqual(len(either(*rules)), many)
                else:
                    self.told(("all",), lets_all, *rules)
            for value in (("all",), None, ("parting", ("", "n")), [], EVERY):
                if many > 64:
                    self.refused(TooMany, many, shows_lets_all, rules[0], rules[1], value)
                else:
                    self.told(value == ("all",), shows_lets_all, rules[0], rules[1], value)

    def test_triples(self):
        for one, other, many in ((64, 1, 64), (8, 7, 56), (5, 13, 65), (63, 64, 4032)):
            # Nothing is often, so the first one is waited for for ever.
            rules = (ring(one, ()).rule, ring(other, ()).rule)
            if many > 64:
                self.refused(TooMany, many, both, *rules)
                self.refused(TooMany, many, both, other=rules[1], rule=rules[0])
            else:
                self.assertEqual((len(both(*rules)), both(*rules).often), (many, ()))
        # All is often, so they are waited for by turns: an odd ring is gone round twice.
        self.assertEqual(len(both(ring(31, range(31)).rule, ring(1).rule)), 62)
        self.assertEqual(len(both(ring(32, range(32)).rule, ring(1).rule)), 32)
        self.assertEqual(len(both(ring(32, range(32)).rule, ring(64, range(64)).rule)), 64)
        self.refused(TooMany, 66, both, ring(33, range(33)).rule, ring(1).rule)
        self.refused(TooMany, 2 * 5 * 7, both, ring(5, range(5)).rule, ring(7, range(7)).rule)

    def test_barring(self):
        for size in (1, 2, 30, 62, 63):
            self.assertEqual(len(barring(EVERY, ("", "n" * (size - 1) + "f"))), size + 1)
            self.assertEqual(len(barring(EVERY, ("f" * (size - 1), "n"))), size + 1)
        for size in (64, 65, 100, 200):
            self.refused(TooMany, size + 1, barring, EVERY, ("", "n" * (size - 1) + "f"))
            self.refused(TooMany, size + 1, barring, EVERY, ("f" * (size - 1), "n"))
            self.refused(TooMany, size + 1, barring, loss=("f" * (size - 1), "n"), rule=NEVER)
        self.refused(TooMany, 401, barring, EVERY, ("f" * 200, "n" * 199 + "s"))
        # Not the told length counts, but that of the least form.
        self.assertEqual(len(barring(EVERY, ("n" * 200, "n" * 200))), 2)
        self.assertEqual(len(barring(ring(32).rule, ("", "n" * 50))), 64)
        self.refused(TooMany, 66, barring, ring(33).rule, ("", "f"))
        # A state to which no word leads does not count.
        far = Machine([(0, 0, 0)] + [(0, 0, 0)] * 63, [True] * 64)
        self.assertEqual(len(barring(far.rule, ("", "f"))), 2)
        self.assertEqual(len(either(far.rule, far.rule)), 1)

    def test_wrong_losses(self):
        for value in NO_LOSSES:
            for rule in (EVERY, NEVER, ring(64).rule):
                self.refused(BadLoss, value, barring, rule, value)
                self.refused(BadLoss, value, barring, loss=value, rule=rule)


class LetsAll(Case):
    def test_by_losses(self):
        words = set()
        for one, other in COUPLES:
            told = lets_all(one.rule, other.rule)
            words.add(told[0])
            self.told(told, lets_all, Law(one.rule.text), Law(other.rule.text))
            self.told(True, shows_lets_all, one.rule, other.rule, told)
            if told[0] == "all":
                self.assertEqual(told, ("all",))
                self.assertFalse([loss for loss in LOSSES if one.lets(loss) and not other.lets(loss)])
            else:
                self.assertEqual((len(told), told[0]), (2, "parting"))
                self.assertTrue(one.lets(told[1]))
                self.assertFalse(other.lets(told[1]))
                self.told(False, shows_lets_all, one.rule, other.rule, ("all",))
        self.assertEqual(words, {"all", "parting"})

    def test_told_ones(self):
        for machine in SOME:
            self.told(("all",), lets_all, machine.rule, machine.rule)
            self.told(("all",), lets_all, NEVER, machine.rule)
            self.told(("all",), lets_all, machine.rule, EVERY)
            if can_agree(machine.rule)[0] == "no":
                self.assertEqual(lets_all(machine.rule, SURE)[0], "parting")
        for loss in LONE:
            found = barring(EVERY, loss)
            self.told(("all",), lets_all, found, EVERY)
            told = lets_all(EVERY, found)
            self.assertEqual(told[0], "parting")
            self.assertTrue(are_alike(told[1], loss))

    def test_of_laws_out_of_laws(self):
        for one, other in COUPLES[::3]:
            self.told(("all",), lets_all, both(one.rule, other.rule), one.rule)
            self.told(("all",), lets_all, one.rule, either(one.rule, other.rule))
            self.assertEqual(shows_lets_all(one.rule, both(one.rule, other.rule), ("all",)), lets_all(one.rule, other.rule) == ("all",))

    def test_never_harder_to_agree(self):
        for one, other in COUPLES:
            if lets_all(one.rule, other.rule) == ("all",) and can_agree(other.rule)[0] == "yes":
                self.assertEqual(can_agree(one.rule)[0], "yes")

    def test_losses_of_all_kinds(self):
        for one, other in COUPLES[::7]:
            for loss in LOSSES[::3]:
                right = one.lets(loss) and not other.lets(loss)
                self.told(right, shows_lets_all, one.rule, other.rule, ("parting", loss))

    def test_long_ways(self):
        # They part only behind 63 rounds, and only in rings with a step in the last state.
        one = Machine([(at + 1, 0, 0) for at in range(63)] + [(63, 63, 0)], [at == 63 for at in range(64)])
        told = lets_all(one.rule, ring(1, ()).rule)
        self.told(True, shows_lets_all, one.rule, NEVER, told)
        self.assertTrue(one.lets(told[1]))

    def test_values_near_right_ones(self):
        for one, other in COUPLES[::5]:
            told = lets_all(one.rule, other.rule)
            near = [list(told), told + (None,), (told,), ("All",), ("all", ()), ("all", None), "all", ["all"], ("",), (), None, True,
                    ("parting",), ("parting", None), ("parting", ()), ("all",) + told[1:] + (0,), told[0]]
            if told[0] == "parting":
                head, turns = told[1]
                near += [("parting", told[1], told[1]), ("parting", list(told[1])), ("parting",) + told[1], ("Parting", told[1]),
                         ("all", told[1]), (None, told[1]), ("parting", (head, "")), ("parting", (head, turns, "")), ("parting", (told[1],)),
                         ("parting", (head + turns * 201, turns)), ("parting", (head, turns * 201)), ("parting", (head, turns + "x")),
                         ("parting", (None, turns)), (told[1], "parting"), told[1], ("all",), ["parting", told[1]]]
                for same in ((head + turns, turns), (head, turns * 2), (head, turns * (200 // len(turns)))):
                    self.told(True, shows_lets_all, one.rule, other.rule, ("parting", same))
            for value in near:
                self.told(False, shows_lets_all, one.rule, other.rule, value)
        self.assertIs(shows_lets_all(value=("all",), other=EVERY, rule=NEVER), True)

    def test_values_of_any_kind(self):
        for value in VALUES + tuple(nested(value, 28) for value in VALUES):
            for one, other in ((EVERY, NEVER), (EVERY, EVERY), (SURE, NEVER)):
                self.told(False, shows_lets_all, one, other, value)
                if value != ("", "n"):
                    right = value in LONE and one is EVERY and other is NEVER
                    self.told(right, shows_lets_all, one, other, ("parting", value))
                self.told(False, shows_lets_all, one, other, ("all", value))
                self.told(False, shows_lets_all, one, other, (value, ("", "n")))
        for value in NO_LOSSES:
            self.told(False, shows_lets_all, EVERY, NEVER, ("parting", value))
