"""Journals: written and read back; the first line that cannot stand."""

import random

from tests.bench_samples import FIRST, FLAT, HEARD, LINES, NO_LAWS, TEXTS, WHOLE, as_it_is, ring
from tests.cases import Case
from tests.samples import EVERY, NEVER, NO_STRINGS, SURE, plain
from twofarplayers.bench import Bench
from twofarplayers.errors import BadJournal, NothingToRedo, NoTrial, PlayError
from twofarplayers.journals import journal, read_journal
from twofarplayers.laws import Law
from twofarplayers.lawlots import barring, both, either, turned


class Written(Case):
    def test_without_deeds(self):
        for text in TEXTS:
            self.told("bench\n" + text, journal, Bench(text))

    def test_behind_every_kind_of_deed(self):
        bench = Bench(HEARD)
        bench.turn()
        bench.bar(("nn", "sn"))
        bench.meet(FIRST)
        bench.widen(HEARD)
        bench.bar(("", "n"))
        self.told(WHOLE, journal, bench)
        self.assertTrue(plain(journal(bench=bench)))
        bench.undo()
        bench.undo()
        self.told("\n".join(LINES[:-2]), journal, bench)
        bench.redo()
        self.told("\n".join(LINES[:-1]), journal, bench)
        for _ in range(4):
            bench.undo()
        self.told("bench\n" + HEARD, journal, bench)

    def test_losses_as_they_were_handed_in(self):
        bench = Bench(EVERY.text)
        for loss, line in ((("", "nnn"), "bar - nnn"), (("nfn", "fnfn"), "bar nfn fnfn"), (("s" * 200, "s" * 200), "bar " + "s" * 200 + " " + "s" * 200),
                           (("ff", "fs"), "bar ff fs")):
            bench.bar(loss)
            self.assertEqual(journal(bench).split("\n")[-1], line)
            self.assertEqual(read_journal(journal(bench)), bench)

    def test_within_a_block(self):
        bench = Bench(HEARD)
        with bench.trial():
            bench.turn()
            self.told("bench\n" + HEARD + "\nturn", journal, bench)
        self.told("bench\n" + HEARD, journal, bench)


class ReadBack(Case):
    def test_what_is_read(self):
        bench = read_journal(WHOLE)
        self.assertIs(type(bench), Bench)
        rule = either(both(barring(turned(Law(HEARD)), ("nn", "sn")), Law(FIRST)), Law(HEARD))
        self.assertEqual((bench.rule, bench.done), (barring(rule, ("", "n")), 5))
        bench.undo()
        self.assertEqual((bench.rule, bench.done), (rule, 4))
        bench.redo()
        self.refused(NothingToRedo, None, bench.redo)
        self.refused(NoTrial, None, bench.keep)
        self.told(WHOLE, journal, bench)

    def test_by_chance(self):
        chance = random.Random(1)
        for _ in range(40):
            bench = Bench(chance.choice(TEXTS))
            for _ in range(chance.randrange(9)):
                deed, *told = chance.choice((
                    (bench.turn,), (bench.bar, (chance.choice(("", "n", "ssf")), chance.choice(("n", "s", "ff", "nfs")))),
                    (bench.meet, chance.choice(TEXTS)), (bench.widen, chance.choice(TEXTS))))
                try:
                    deed(*told)
                except PlayError:
                    pass
                if chance.randrange(4) == 0 and bench.done:
                    bench.undo()
            text = journal(bench)
            read = read_journal(text)
            self.assertTrue(read == bench)
            self.assertEqual((read.rule, read.done, read.verdict), (bench.rule, bench.done, bench.verdict))
            self.told(text, journal, read)
            self.assertEqual(as_it_is(read), as_it_is(read_journal(text=text)))
            for done in range(bench.done):
                self.assertEqual(read_journal("\n".join(text.split("\n")[:-1 - done])).done, bench.done - 1 - done)

    def test_each_one_is_independent(self):
        one, other = read_journal(WHOLE), read_journal(WHOLE)
        self.assertTrue(one == other)
        one.turn()
        self.assertEqual(other.done, 5)
        self.assertFalse(one == other)


class Refused(Case):
    def out(self, number, lines):
        self.refused(BadJournal, number, read_journal, "\n".join(lines))

    def test_no_strings(self):
        for value in NO_STRINGS + (LINES, tuple(LINES), Bench(HEARD)):
            self.refused(BadJournal, 0, read_journal, value)
            self.refused(BadJournal, 0, read_journal, text=value)

    def test_first_line(self):
        for text in ("", "\n", "Bench", "bench ", " bench", "law", HEARD, "turn", "\n" + WHOLE, "bench;" + FLAT, "bar n s"):
            self.refused(BadJournal, 1, read_journal, text)
        for first in ("Bench", "bench ", "", "desk", "turn", "bench bench"):
            self.out(1, [first] + LINES[1:])

    def test_laws(self):
        self.refused(BadJournal, 2, read_journal, "bench")
        self.refused(BadJournal, 2, read_journal, "bench\n")
        self.refused(BadJournal, 2, read_journal, "bench\nturn")
        self.refused(BadJournal, 2, read_journal, "bench\nbar n s\n" + HEARD)
        for text, number in NO_LAWS:
            self.refused(BadJournal, number + 1, read_journal, "bench\n" + text)
            self.refused(BadJournal, number + 1, read_journal, "bench\n" + text + "\nturn")
            self.refused(BadJournal, number + 1, read_journal, "bench\n" + text + "\nbar x y\nturn")
        for at in range(1, 10):
            # A line of the law out, twice, bent, or exchanged is that of which Law tells; which one, is Law's to tell.
            for rows in (LINES[1:at] + LINES[at + 1:10], LINES[1:at + 1] + LINES[at:10], LINES[1:at] + ["x"] + LINES[at + 1:10],
                         LINES[1:at] + [LINES[at] + " "] + LINES[at + 1:10]):
                number = None
                try:
                    Law("\n".join(rows))
                except PlayError as error:
                    number = error.value
                for rest in ([], LINES[10:], ["turn"], ["bar", "what"]):
                    self.out(number + 1, ["bench"] + rows + rest)

    def test_where_the_law_ends(self):
        # A line that begins with the word of a deed ends the law, so that some line of it lacks.
        for line in ("turn", "bar", "meet", "widen", "turn x", "bar ", "meet  x", "widen law", "turn turn"):
            for at in range(1, 10):
                # Ahead of the second state nothing of the first one lacks, but line 4 leads to the second one.
                self.out(4 if at == 6 else at + 1, LINES[:at] + [line] + LINES[at:])
        # One that only begins like it does not.
        for line in ("turns", "turn;", "bars n s", "Turn", " turn", "undo", "redo", "verdict", "", "met x"):
            self.out(11, LINES[:10] + [line] + LINES[10:])
            self.out(11, LINES[:10] + [line])

    def test_lines_twice_out_and_exchanged_among_deeds(self):
        for at in range(10, 15):
            self.assertEqual(read_journal("\n".join(LINES[:at] + LINES[at + 1:])).done, 4)
            self.assertEqual(read_journal("\n".join(LINES[:at + 1] + LINES[at:])).done, 6)
        for at in range(10, 14):
            self.assertEqual(read_journal("\n".join(LINES[:at] + [LINES[at + 1], LINES[at]] + LINES[at + 2:])).done, 5)

    def test_bent_deeds(self):
        near = [
            "", " ", "turn ", " turn", "turn turn", "turn n", "Turn", "turns", "bar", "bar ", "bar n", "bar n ", "bar  n", "bar n s ", "bar  n s",
            "bar n  s", "bar n s n", "Bar n s", "bar n s\t", "bar n - ", "barn s", "bar  ", "bar   ", "meet", "meet ", "widen", "widen ",
            "Meet " + FLAT, "meet;" + FLAT, "widen;" + FLAT, "undo", "redo", "verdict", "lets n s", "begins n", "rounds", "bench", "law", "-",
            "meet" + FLAT, "keep", "trial"]
        # These have the form of a deed, but are refused.
        near += [
            "bar n -", "bar - -", "bar x n", "bar n x", "bar -- n", "bar n n-", "bar N S", "bar n;s n", "bar " + "n" * 201 + " s", "bar - " + "s" * 201,
            "bar - " + "n" * 100 + "s" * 100, "meet  " + FLAT, "meet " + FLAT + " ", "meet law", "meet ;", "meet x", "widen " + FLAT[:-1], "meet " + FLAT + ";",
            "widen  " + FLAT, "widen " + FLAT.replace(";", ";;", 1), "meet " + ring(64).rule.text.replace("\n", ";"),
            "widen " + ring(63).rule.text.replace("\n", ";")]
        for bent in near:
            for at in range(10, 16):
                self.out(at + 1, LINES[:at] + [bent] + LINES[at:])
                self.out(at + 1, LINES[:at] + [bent])
                self.out(at + 1, LINES[:at] + [bent, "turn", "x"])

    def test_line_feed_at_the_end(self):
        self.refused(BadJournal, 16, read_journal, WHOLE + "\n")
        self.refused(BadJournal, 11, read_journal, "bench\n" + HEARD + "\n")
        self.refused(BadJournal, 12, read_journal, "bench\n" + HEARD + "\nturn\n")
        self.refused(BadJournal, 12, read_journal, "bench\n" + HEARD + "\nturn\n\n")

    def test_too_many(self):
        lines = ["bench"] + ring(33).rule.text.split("\n")
        self.assertEqual(read_journal("\n".join(lines + ["turn"])).done, 1)
        self.out(136, lines + ["turn", "bar - n", "turn"])
        self.out(135, lines + ["meet " + ring(64).rule.text.replace("\n", ";")])
        every = ["bench"] + EVERY.text.split("\n")
        self.assertEqual(len(read_journal("\n".join(every + ["bar - " + "n" * 62 + "s"])).rule), 64)
        self.out(7, every + ["bar - " + "n" * 63 + "s"])
        self.out(9, every + ["turn", "meet " + NEVER.text.replace("\n", ";"), "bar " + "s" * 64 + " n"])
        self.out(9, every + ["turn", "widen " + SURE.text.replace("\n", ";"), "bar " + "s" * 64 + " n"])
