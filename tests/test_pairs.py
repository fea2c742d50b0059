"""Pairs: their texts, and what they do along words and losses."""

import itertools

from tests.cases import Case
from tests.pair_samples import Duo, TOLD, calling, drawn_duos, hopeful_duos, waiting
from tests.samples import EVERY, NO_LOSSES, NO_STRINGS, NO_WISHES, NO_WORDS, WISHES, losses_up_to, plain, words_up_to
from twofarplayers.errors import BadFate, BadLoss, BadPair, BadStates, BadWishes, BadWord
from twofarplayers.pairs import Pair, begun, ends, heard, played

LINES = TOLD.split("\n")
WORDY = (
    "pair\nfirst state pair\nstate state a 0 pair state pair state\nstate pair c - second second pair first\n"
    "state first b 1 pair pair pair pair\nstate second b - first first first first\n"
    "second second zzzzzz\nstate second c - a a a a\nstate a a 1 zzzzzz a a b\nstate b b 0 c c c c\nstate c a - b b b b\n"
    "state zzzzzz a - a b c zzzzzz")
DUOS = drawn_duos(2, 12, 1) + drawn_duos(4, 12, 2) + hopeful_duos(4, 8, 3) + drawn_duos(12, 3, 4, 0.1) + [
    waiting(0), waiting(1), waiting(5), calling(True), calling(False)]


def many_states(first, second):
    """A right text, but for the bounds, with so many states."""
    def rows(many):
        return ["state " + "abcdefghijklmnop"[at] + " a - a a a a" for at in range(many)]
    return "\n".join(["pair", "first a a"] + rows(first) + ["second a a"] + rows(second))


class Texts(Case):
    def test_right_ones(self):
        for text in (TOLD, WORDY, many_states(1, 1), many_states(12, 1), many_states(1, 12), many_states(12, 12)):
            self.assertEqual(Pair(text).text, text)
        for duo in DUOS:
            self.assertEqual(Pair(duo.text()).text, duo.text())

    def test_properties(self):
        told = Pair(TOLD)
        self.assertEqual((told.first, told.second), (("z", "o"), ("w", "z", "o")))
        wordy = Pair(WORDY)
        self.assertEqual((wordy.first, wordy.second), (
            ("state", "pair", "first", "second"), ("second", "a", "b", "c", "zzzzzz")))
        for found in (told, wordy):
            self.assertTrue(plain(found.first) and plain(found.second) and plain(found.text))
            self.assertIs(type(found.first), tuple)
            self.assertIs(type(found.second), tuple)
        self.assertEqual(Pair(text=TOLD).text, TOLD)

    def test_no_strings(self):
        for value in NO_STRINGS + (Pair(TOLD), (TOLD,), [TOLD], TOLD.encode(), LINES, tuple(LINES)):
            self.refused(BadPair, 0, Pair, value)
            self.refused(BadPair, 0, Pair, text=value)

    def test_no_signs_and_a_line_feed_at_the_end(self):
        self.refused(BadPair, 1, Pair, "")
        self.refused(BadPair, 1, Pair, "\n" + TOLD)
        self.refused(BadPair, 9, Pair, TOLD + "\n")
        self.refused(BadPair, 2, Pair, "pair\n")
        self.refused(BadPair, 5, Pair, "\n".join(LINES[:4]) + "\n")
        self.refused(BadPair, 13, Pair, WORDY + "\n\n")

    def test_ends_of_the_text_that_lack(self):
        # Of six lines and of seven none lacks, but states z and o, to which state w leads in line 6, do.
        for many, number in enumerate((2, 3, 4, 5, 6, 6, 6), start=1):
            self.refused(BadPair, number, Pair, "\n".join(LINES[:many]))
        # A line that lacks counts ahead of a name that no state has.
        self.refused(BadPair, 5, Pair, "pair\nfirst z q\nstate z a 0 z z z z\nsecond z z")
        self.refused(BadPair, 4, Pair, "pair\nfirst z z\nstate z a 0 z z z z")
        self.refused(BadPair, 4, Pair, "pair\nfirst z z\nstate z a 0 z z z x")

    def test_lines_out(self):
        # Without the line `second` all states are the first machine's, and so there is a second z in line 6.
        for at, number in enumerate((1, 2, 2, 2, 6, 5, 6, 6)):
            self.refused(BadPair, number, Pair, "\n".join(LINES[:at] + LINES[at + 1:]))

    def test_lines_twice(self):
        for at in range(len(LINES)):
            text = "\n".join(LINES[:at + 1] + LINES[at:])
            self.refused(BadPair, at + 2, Pair, text)

    def test_lines_exchanged(self):
        for at, number in enumerate((1, 2, None, 8, 6, None, None)):
            rows = LINES[:at] + [LINES[at + 1], LINES[at]] + LINES[at + 2:]
            if number is None:
                found = Pair("\n".join(rows))
                self.assertEqual([sorted(found.first), sorted(found.second)], [["o", "z"], ["o", "w", "z"]])
                self.assertNotEqual((found.first, found.second), (Pair(TOLD).first, Pair(TOLD).second))
            else:
                self.refused(BadPair, number, Pair, "\n".join(rows))

    def test_lines_bent(self):
        for at, line in enumerate(LINES):
            words = line.split(" ")
            near = [line + " ", " " + line, line + " z", line.replace(" ", "  ", 1) + " ", line.upper(), line + "\t", "", "x" + line]
            near += [" ".join(words[:-1]), " ".join(words[:-1] + ["Z"]), " ".join(words[:-1] + ["toolong"]),
                     " ".join(words[:-1] + [""]), " ".join(words[:-1] + ["z1"]), " ".join(words[:-1] + ["z-"])]
            if len(words) > 1:
                near += [line.replace(" ", "  ", 1), line.replace(" ", "\t", 1), " ".join(words[:1] + words), words[0]]
                near += [" ".join([words[0], name] + words[2:]) for name in ("", "Z", "z1", "-", "toolong", "z,")]
            if words[0] == "state":
                near += [" ".join(words[:2] + [call] + words[3:]) for call in ("d", "A", "", "ab", "-", "0")]
                near += [" ".join(words[:3] + [end] + words[4:]) for end in ("2", "", "00", "--", "a", "n", "01", "+0")]
                near += [" ".join(words[:k] + ["?"] + words[k + 1:]) for k in range(8)]
                near += [" ".join(words[:k] + words[k + 1:]) for k in range(8)]
            for bent in near:
                for rest in (LINES[at + 1:], [], ["no line"]):
                    self.refused(BadPair, at + 1, Pair, "\n".join(LINES[:at] + [bent] + rest))

    def test_lines_of_another_place(self):
        self.refused(BadPair, 2, Pair, "\n".join(["pair", "second z z"] + LINES[2:]))
        self.refused(BadPair, 2, Pair, "\n".join(["pair"] + LINES[2:]))
        # No line `second` ahead of a state, none a second time, no line `first` a second time.
        self.refused(BadPair, 3, Pair, "\n".join(LINES[:2] + LINES[4:]))
        self.refused(BadPair, 9, Pair, TOLD + "\nsecond w w")
        self.refused(BadPair, 5, Pair, "\n".join(LINES[:4] + ["first z o"] + LINES[4:]))
        self.refused(BadPair, 6, Pair, "\n".join(LINES[:5] + ["first z o"] + LINES[5:]))
        self.refused(BadPair, 5, Pair, "\n".join(LINES[:4] + ["pair"] + LINES[4:]))
        self.refused(BadPair, 1, Pair, "\n".join(["law"] + LINES[1:]))

    def test_names_unlike_in_a_machine(self):
        for at, taken in ((3, "z"), (6, "w"), (7, "w"), (7, "z")):
            words = LINES[at].split(" ")
            bent = " ".join([words[0], taken] + words[2:])
            self.refused(BadPair, at + 1, Pair, "\n".join(LINES[:at] + [bent] + LINES[at + 1:]))
        # Alike in both machines they may be, and unlike in both.
        self.assertEqual(Pair(TOLD).first[0], Pair(TOLD).second[1])
        apart = "pair\nfirst a a\nstate a a 0 a a a a\nsecond b b\nstate b a 0 b b b b"
        self.assertEqual((Pair(apart).first, Pair(apart).second), (("a",), ("b",)))

    def test_thirteenth_state(self):
        self.refused(BadPair, 15, Pair, many_states(13, 1))
        self.refused(BadPair, 15, Pair, many_states(14, 13))
        self.refused(BadPair, 17, Pair, many_states(1, 13))
        self.refused(BadPair, 28, Pair, many_states(12, 13))
        self.refused(BadPair, 28, Pair, many_states(12, 14))
        # Also one that names a state which lacks; and it counts ahead of such names in lines ahead of it.
        self.refused(BadPair, 15, Pair, many_states(12, 1).replace("second", "state n a - a a a x\nsecond"))
        self.refused(BadPair, 15, Pair, many_states(13, 1).replace("first a a", "first a x"))

    def test_names_that_a_machine_lacks(self):
        for at, line in enumerate(LINES):
            words = line.split(" ")
            places = {"pair": [], "first": [1, 2], "second": [1, 2], "state": [4, 5, 6, 7]}[words[0]]
            for place in places:
                bent = " ".join(words[:place] + ["lack"] + words[place + 1:])
                self.refused(BadPair, at + 1, Pair, "\n".join(LINES[:at] + [bent] + LINES[at + 1:]))
                # The first one of two; but a line that cannot stand at all counts ahead of them.
                rest = LINES[at + 1:]
                if rest:
                    self.refused(BadPair, at + 1, Pair, "\n".join(LINES[:at] + [bent] + rest[:-1] + ["state o c 1 o o o lack"]))
                    self.refused(BadPair, 8, Pair, "\n".join(LINES[:at] + [bent] + rest[:-1] + ["state o c 1 o o o O"]))
                    self.refused(BadPair, 9, Pair, "\n".join(LINES[:at] + [bent] + rest + [""]))
        # w is a state of the second machine alone.
        self.refused(BadPair, 2, Pair, TOLD.replace("first z o", "first z w"))
        self.refused(BadPair, 3, Pair, TOLD.replace("state z a 0 z z z z", "state z a 0 z z w z", 1))

    def test_equal_by_their_texts(self):
        self.assertTrue(Pair(TOLD) == Pair(TOLD))
        self.assertFalse(Pair(TOLD) != Pair(TOLD))
        renamed = Pair(TOLD.replace("w", "v"))
        for other in (renamed, Pair(WORDY), TOLD, EVERY, None, 0, True, (), (TOLD,), [], {}, (Pair(TOLD),)):
            self.assertFalse(Pair(TOLD) == other)
            self.assertTrue(Pair(TOLD) != other)
            self.assertFalse(other == Pair(TOLD))


class Rounds(Case):
    def test_begun(self):
        for duo in DUOS:
            for wishes in WISHES:
                places = duo.begin(wishes)
                self.told(tuple(names[at] for names, at in zip(duo.names, places)), begun, duo.pair, wishes)

    def test_heard(self):
        for duo in DUOS:
            for places in itertools.product(*[range(len(rows)) for rows in duo.states]):
                states = tuple(names[at] for names, at in zip(duo.names, places))
                for fate in "nfs":
                    behind = duo.step(places, fate)
                    wanted = tuple(names[at] for names, at in zip(duo.names, behind))
                    self.told(wanted, heard, duo.pair, states, fate)

    def test_who_hears_what(self):
        # By what it hears a machine goes to the state with this name.
        rows = ["state a a - a b c no", "state b b - a b c no", "state c c - a b c no", "state no c - a b c no"]
        pair = Pair("\n".join(["pair", "first a b"] + rows + ["second b c"] + rows))
        self.told(("b", "a"), heard, pair, ("a", "b"), "n")
        self.told(("b", "no"), heard, pair, ("a", "b"), "f")
        self.told(("no", "a"), heard, pair, ("a", "b"), "s")
        self.told(("c", "c"), heard, pair, ("no", "no"), "n")

    def test_wrong_states(self):
        told = Pair(TOLD)
        wrong = NO_STRINGS + ("z", "zw", (), ("z",), ("z", "w", "z"), ["z", "w"], ("w", "z"), ("z", "x"), ("x", "w"), ("w", "w"),
                              ("Z", "w"), ("z", ""), ("", ""), (None, "w"), ("z", None), (0, 0), (True, "w"), (("z",), "w"),
                              ("z", ["w"]), (["z"], "w"), ({}, "w"), (EVERY, "w"), ("z", told), (told, told), ("z\n", "w"),
                              (("z", "w"),), {"z": "w"}, ("z o", "w"))
        for value in wrong:
            self.refused(BadStates, value, heard, told, value, "n")
            self.refused(BadStates, value, heard, told, value, "x")
            self.refused(BadStates, value, heard, fate=None, states=value, pair=told)

    def test_wrong_fates(self):
        told = Pair(TOLD)
        for value in NO_STRINGS + ("", "nf", "nfs", "fs", "N", "a", " ", "n ", "-", "nn", ("n",), ["n"], told):
            self.refused(BadFate, value, heard, told, ("z", "w"), value)
            self.refused(BadFate, value, heard, fate=value, states=("o", "o"), pair=told)


class Playing(Case):
    def test_played(self):
        words = words_up_to(4)
        for duo in DUOS:
            for wishes in WISHES:
                for word in words[::1 if len(duo.names[0]) < 3 else 5]:
                    self.told(duo.played(wishes, word), played, duo.pair, wishes, word)

    def test_ends(self):
        losses = losses_up_to(2, 2) + [("nfsn", "ffs"), ("n" * 200, "f"), ("", "nfs" * 66), ("sf" * 100, "fs" * 100)]
        for duo in DUOS:
            for wishes in WISHES:
                for loss in losses[::3 if len(duo.names[0]) < 12 else 40]:
                    self.told(duo.ends(wishes, loss), ends, duo.pair, wishes, loss)

    def test_ends_of_long_losses(self):
        for duo in (calling(True), calling(False), waiting(11)):
            for loss in (("f" * 200, "n"), ("s" * 200, "n"), ("", "f" * 199 + "n"), ("s" * 200, "s" * 199 + "n"), ("fs", "fffsss")):
                for wishes in WISHES:
                    self.told(duo.ends(wishes, loss), ends, duo.pair, wishes, loss)

    def test_late_ends(self):
        pair = calling(True).pair
        self.told(((0, 1), (400, 1)), ends, pair, (1, 0), ("f" * 200, "f" * 199 + "n"))
        self.told(((0, 1), (1, 1)), ends, pair, (1, 0), ("", "n" + "f" * 199))
        self.told(((0, 1), None), ends, pair, (1, 0), ("f" * 200, "f" * 200))
        # Twelve states by twelve, and a round of two fates: the second end comes behind many turns of the round.
        first = [(at % 3, None, ((at + 1) % 11, 0, 1, (at + 1) % 11)) for at in range(11)] + [(0, 1, (11,) * 4)]
        second = [(2 if at == 9 else 0, 0 if at == 11 else None, ((at + 1) % 12,) * 4) for at in range(12)]
        duo = Duo(((0, 0), (0, 0)), [first, second])
        for loss in (("", "n"), ("", "f"), ("", "s"), ("", "nf"), ("nf", "fss"), ("", "nnnf")):
            self.told(duo.ends((0, 1), loss), ends, duo.pair, (0, 1), loss)

    def test_machines_that_begin_ended_end_late_or_never(self):
        self.told(((0, 0), (0, 0)), ends, waiting(0).pair, (0, 1), ("", "n"))
        self.told(((0, 0), (0, 0)), played, waiting(0).pair, (0, 1), "")
        for rounds in range(1, 12):
            pair = waiting(rounds).pair
            self.told(((rounds, 0), (rounds, 0)), ends, pair, (1, 1), ("", "nfs"))
            self.told((None, None), played, pair, (1, 1), "n" * (rounds - 1))
            self.told(((rounds, 0), (rounds, 0)), played, pair, (1, 1), "f" * rounds)
            self.told(((rounds, 0), (rounds, 0)), played, pair, (1, 1), "f" * 200)
        never = Pair(many_states(1, 1))
        for wishes in WISHES:
            self.told((None, None), ends, never, wishes, ("nf", "sn"))
            self.told((None, None), played, never, wishes, "nfs" * 66)

    def test_an_end_is_for_good(self):
        # The first one comes to an end of 0, goes on, and comes to states with other ends; it goes on calling.
        rows = "state u a 0 v v v v\nstate v b 1 w w w w\nstate w c - u u u u"
        pair = Pair("pair\nfirst u w\n" + rows + "\nsecond x x\nstate x a - x x y x\nstate y a 1 x x x x")
        self.told(((0, 0), (3, 1)), ends, pair, (0, 0), ("", "n"))
        self.told(((1, 0), (1, 1)), ends, pair, (1, 0), ("", "n"))
        self.told(((1, 0), None), ends, pair, (1, 0), ("", "fnn"))
        self.told(((1, 0), (4, 1)), ends, pair, (1, 0), ("f", "n"))

    def test_losses_told_in_several_ways(self):
        for duo in DUOS[::4]:
            for wishes in WISHES:
                for head, ring in (("", "nf"), ("s", "n"), ("fs", "ffs")):
                    wanted = ends(duo.pair, wishes, (head, ring))
                    for loss in ((head + ring, ring), (head, ring * 2), (head + ring[:1], ring[1:] + ring[:1]), (head, ring * 60)):
                        self.told(wanted, ends, duo.pair, wishes, loss)

    def test_played_is_what_ends_tells(self):
        for duo in DUOS[::3]:
            for loss in (("", "nfs"), ("ss", "f"), ("f", "nns")):
                told = ends(duo.pair, (0, 1), loss)
                for many in (0, 1, 2, 5, 60, 200):
                    word = (loss[0] + loss[1] * many)[:many]
                    wanted = tuple(end if end is not None and end[0] <= many else None for end in told)
                    self.told(wanted, played, duo.pair, (0, 1), word)

    def test_wrong_wishes_words_and_losses(self):
        told = Pair(TOLD)
        for value in NO_WISHES:
            self.refused(BadWishes, value, begun, told, value)
            self.refused(BadWishes, value, begun, wishes=value, pair=told)
            for wrong in (None, "nf", ("", "n"), "x", ("", "")):
                self.refused(BadWishes, value, played, told, value, wrong)
                self.refused(BadWishes, value, ends, told, value, wrong)
        for value in NO_WORDS:
            self.refused(BadWord, value, played, told, (0, 1), value)
            self.refused(BadWord, value, played, word=value, wishes=(0, 1), pair=told)
        for value in NO_LOSSES:
            self.refused(BadLoss, value, ends, told, (0, 1), value)
            self.refused(BadLoss, value, ends, loss=value, wishes=(0, 1), pair=told)
