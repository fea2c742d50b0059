"""The examples of the document, as they stand there.

>>> from twofarplayers.laws import after, begins, Law, lets, shows_some_loss, some_loss
>>> rows = ['law', 'state a often', 'on n a', 'on f b', 'on s b', 'state b', 'on n a', 'on f b', 'on s b']
>>> heard = Law('\\n'.join(rows))
>>> [heard.names, heard.often, len(heard), after(heard, ''), after(heard, 'nffs'), after(heard, 'fn')]
[('a', 'b'), ('a',), 2, 'a', 'b', 'a']
>>> [lets(heard, loss) for loss in (('', 'n'), ('nnn', 'fs'), ('f', 'sn'), ('ns', 'f'))]
[True, False, True, False]
>>> [begins(heard, 'fffsss'), shows_some_loss(heard, ('s', 'nf')), shows_some_loss(heard, ('n', 'f')), shows_some_loss(heard, None)]
[True, True, False, False]
>>> never = Law('law\\nstate z\\non n z\\non f z\\non s z')
>>> [some_loss(never), begins(never, ''), lets(never, ('', 'n')), never.often]
[None, False, False, ()]
>>> first = Law('law\\nstate go often\\non n go\\non f go\\non s end\\nstate end\\non n end\\non f end\\non s end')
>>> [begins(first, 'nfnf'), begins(first, 'nfs'), after(first, 'nfsn'), lets(first, ('fnf', 'nnf'))]
[True, False, 'end', True]

>>> from twofarplayers.losses import are_alike, least, letters_of, shifted, tail
>>> [least(('nfn', 'fn')), least(('nf', 'fnfn')), least(('s', 'sss')), least(('', 'nns'))]
[('', 'nf'), ('nf', 'fn'), ('', 's'), ('', 'nns')]
>>> [are_alike(('nfn', 'fn'), ('nf', 'nfnf')), are_alike(('nf', 'n'), ('nf', 'f')), letters_of(('n', 'fs'), 6), letters_of(('n', 'fs'), 0)]
[True, False, 'nfsfsf', '']
>>> [tail(('n', 'fff')), tail(('ff', 'fn')), tail(('', 's')), tail(('fff', 'ss'))]
['f', 'fair', 's', 's']
>>> [shifted(('', 'nf'), 'nf'), shifted(('f', 'n'), 'nn'), shifted(('', 'nf'), 'nfn'), shifted(('ss', 'f'), '')]
[('', 'nf'), ('nnf', 'n'), ('nfn', 'nf'), ('ss', 'f')]

>>> from twofarplayers.rows import blind, neighbours, numbers, place, whole_row, word_at
>>> whole_row(2)
('ss', 'sn', 'sf', 'nf', 'nn', 'ns', 'fs', 'fn', 'ff')
>>> [place('nf'), numbers('nf'), word_at(2, 5), place(''), numbers(''), whole_row(0)]
[3, (4, 3), 'ns', 0, (0, 1), ('',)]
>>> [neighbours('nn'), neighbours('ss'), neighbours('ff')]
[('nf', 'ns'), (None, 'sn'), ('fn', None)]
>>> [blind('sf', 'nf'), blind('sn', 'sf'), blind('ss', 'nn'), blind('n', 'n')]
[('second',), ('first',), (), ('first', 'second')]
>>> [numbers('s' * 5), numbers('f' * 5), place('nnn'), word_at(20, 3 ** 20 - 1) == 'f' * 20]
[(0, 1), (242, 243), 13, True]

>>> from twofarplayers.twins import are_twins, distance, twins
>>> [twins(('f', 's')), twins(('nn', 'sss')), twins(('s', 'ff')), twins(('', 's')), twins(('fs', 's')), twins(('', 'sf'))]
[(('n', 's'),), (('nf', 's'),), (('n', 'f'),), (), (('n', 's'),), ()]
>>> [are_twins(('f', 's'), ('n', 'ss')), are_twins(('f', 's'), ('f', 's')), are_twins(('s', 'f'), ('f', 's'))]
[True, False, False]
>>> [[distance(('f', 's'), ('n', 's'), rounds) for rounds in (0, 1, 2, 9)], [distance(('', 's'), ('', 'n'), rounds) for rounds in range(5)]]
[[0, 1, 1, 1], [0, 1, 4, 13, 40]]
>>> distance(('', 'sf'), ('', 'fs'), 2)
4

>>> from twofarplayers.laws import Law, lets
>>> from twofarplayers.verdicts import bars_fair, bars_twins, can_agree, shows_can_agree
>>> all_let = Law('law\\nstate a often\\non n a\\non f a\\non s a')
>>> [can_agree(all_let), bars_fair(all_let), bars_twins(all_let)]
[('no', ()), None, None]
>>> again = Law('law\\nstate a\\non n a\\non f b\\non s b\\nstate b often\\non n a\\non f b\\non s b')
>>> [can_agree(again)[0], shows_can_agree(again, ('yes', (('', 'n'),))), shows_can_agree(again, ('yes', (('fs', 'nn'),))), shows_can_agree(again, ('yes', (('', 'nf'),)))]
['yes', True, True, False]
>>> once = Law('law\\nstate a often\\non n b\\non f b\\non s a\\nstate b often\\non n c\\non f c\\non s d\\nstate c often\\non n c\\non f c\\non s c\\nstate d\\non n c\\non f c\\non s d')
>>> [lets(once, loss) for loss in (('f', 's'), ('n', 's'), ('', 's'), ('sf', 's'))]
[False, False, True, False]
>>> [can_agree(once)[0], shows_can_agree(once, ('yes', (('f', 's'), ('n', 's')))), shows_can_agree(once, ('yes', (('f', 's'),)))]
['yes', True, False]
>>> one_of_both = Law(once.text.replace('on n b', 'on n c'))
>>> [lets(one_of_both, ('f', 's')), lets(one_of_both, ('n', 's')), can_agree(one_of_both)[0], shows_can_agree(one_of_both, ('no', (('d', 0, 's'),)))]
[False, True, 'no', True]

>>> from twofarplayers.talks import mark, talk, talked
>>> never = (('', 'n'),)
>>> [[mark(never, rounds) for rounds in range(4)], talk(never, (0, 1), ('', 'f'), 9), talk(never, (0, 1), ('', 's'), 9)]
[[0, 1, 4, 13], ((2, 1), (1, 1)), ((2, 0), (2, 0))]
>>> [talk(never, (0, 1), ('n', 'f'), 9), talk(never, (1, 0), ('n', 'f'), 2), talk(never, (1, 0), ('nn', 'n'), 200)]
[((3, 0), (3, 0)), (None, None), (None, None)]
>>> talked(never, ('', 'f'), 3)
((0, 0, 1), (1, 2, 3), (4, 6, None), (13, None, None))
>>> twins = (('f', 's'), ('n', 's'))
>>> [[mark(twins, rounds) for rounds in range(4)], talk(twins, (0, 1), ('', 'n'), 9), talk(twins, (0, 1), ('', 's'), 9), talk(twins, (0, 1), ('n', 's'), 99)]
[[0, 2, 6, 18], ((2, 0), (3, 0)), ((1, 0), (2, 0)), (None, None)]

>>> from twofarplayers.laws import Law
>>> from twofarplayers.rounds import barred_beginning, barred_places, cut, ended, least_rounds, many_beginnings, shows_why_rounds, why_rounds
>>> sure = Law('law\\nstate g often\\non n g\\non f b\\non s b\\nstate b\\non n b\\non f b\\non s b')
>>> again = Law('law\\nstate g often\\non n g\\non f h\\non s g\\nstate h\\non n g\\non f h\\non s g')
>>> [barred_beginning(sure), least_rounds(sure), many_beginnings(sure, 3), barred_places(sure, 1), cut(sure, 1)]
['f', 1, 1, (0, 2), 0]
>>> [barred_beginning(again), least_rounds(again), many_beginnings(again, 3), barred_places(again, 2)]
[None, None, 27, ()]
>>> [ended(sure, 1, (0, 1), 'n'), why_rounds(sure)[0], shows_why_rounds(sure, ('broken', 's')), shows_why_rounds(sure, ('broken', 'nf'))]
[1, 'broken', True, False]
>>> [why_rounds(again)[0], shows_why_rounds(again, ('whole', (('g', ('', 'n')), ('h', ('ff', 's'))))), shows_why_rounds(again, ('whole', (('g', ('', 'f')), ('h', ('', 'n')))))]
['whole', True, False]
>>> once = Law('law\\nstate g often\\non n g\\non f h\\non s h\\nstate h often\\non n h\\non f b\\non s b\\nstate b\\non n b\\non f b\\non s b')
>>> [barred_beginning(once), least_rounds(once), many_beginnings(once, 2), barred_places(once, 2), cut(once, 2), ended(once, 2, (0, 1), 'nn'), ended(once, 2, (0, 1), 'sn')]
['ff', 2, 5, (0, 2, 6, 8), 0, 1, 1]

>>> from twofarplayers.pairs import begun, ends, heard, Pair, played
>>> told = Pair('pair\\nfirst z o\\nstate z a 0 z z z z\\nstate o b 1 o o o o\\nsecond w w\\nstate w c - z o w w\\nstate z c 0 z z z z\\nstate o c 1 o o o o')
>>> [told.first, told.second, begun(told, (1, 0)), heard(told, ('o', 'w'), 'n'), heard(told, ('o', 'w'), 'f'), heard(told, ('o', 'w'), 's')]
[('z', 'o'), ('w', 'z', 'o'), ('o', 'w'), ('o', 'o'), ('o', 'w'), ('o', 'o')]
>>> [played(told, (1, 0), word) for word in ('', 'f', 'ffs', 'fn')]
[((0, 1), None), ((0, 1), None), ((0, 1), (3, 1)), ((0, 1), (2, 1))]
>>> [ends(told, (0, 1), ('ff', 'n')), ends(told, (0, 1), ('', 'f'))]
[((0, 0), (3, 0)), ((0, 0), None)]

>>> from twofarplayers.judging import judged, latest, outcomes, shows_judged
>>> from twofarplayers.laws import Law
>>> from twofarplayers.pairs import Pair
>>> told = Pair('pair\\nfirst z o\\nstate z a 0 z z z z\\nstate o b 1 o o o o\\nsecond w w\\nstate w c - z o w w\\nstate z c 0 z z z z\\nstate o c 1 o o o o')
>>> sure = Law('law\\nstate g often\\non n g\\non f b\\non s b\\nstate b\\non n b\\non f b\\non s b')
>>> again = Law('law\\nstate g often\\non n g\\non f h\\non s g\\nstate h\\non n g\\non f h\\non s g')
>>> free = Law('law\\nstate g often\\non n g\\non f g\\non s g')
>>> [judged(sure, told), latest(sure, told), judged(again, told), latest(again, told), outcomes(again, told, (1, 0))]
[('good',), 1, ('good',), None, ((1, 1),)]
>>> [judged(free, told)[0], shows_judged(free, told, ('bad', (0, 0), ('nnf', 'f'), 'never')), shows_judged(free, told, ('bad', (0, 1), ('', 'f'), 'never')), outcomes(free, told, (0, 1))]
['bad', False, True, ((0, 0), (0, '-'))]
>>> rash = Pair('pair\\nfirst z o\\nstate z a 0 z z z z\\nstate o b 1 o o o o\\nsecond z o\\nstate z a 0 z z z z\\nstate o b 1 o o o o')
>>> [judged(sure, rash)[1:2] in (((0, 1),), ((1, 0),)), judged(sure, rash)[3], shows_judged(sure, rash, ('bad', (0, 1), ('nn', 'n'), 'unlike')), outcomes(sure, rash, (0, 0))]
[True, 'unlike', True, ((0, 0),)]
>>> odd = Pair('pair\\nfirst z z\\nstate z a 0 z z z z\\nsecond z z\\nstate z a 0 z z z z')
>>> [judged(free, odd)[1], judged(free, odd)[3], latest(Law('law\\nstate z\\non n z\\non f z\\non s z'), odd)]
[(1, 1), 'nobody', -1]

>>> from twofarplayers.nearness import gap, near, needed, widest
>>> worths = ((0, 1), (1, 1))
>>> [near(worths, 'nf'), near(worths, 'sss'), near(worths, ''), gap(worths, 2), gap(worths, 0)]
[((4, 9), (1, 3)), ((0, 1), (1, 27)), ((0, 1), (1, 1)), (1, 9), (1, 1)]
>>> [needed(worths, (1, 100)), needed(worths, (1, 1)), needed(((5, 2), (5, 2)), (1, 9)), near(((7, 1), (-2, 1)), 'n')]
[5, 0, 0, ((1, 1), (4, 1))]
>>> widest(((0, 1), (0, 1), (1, 1), (1, 1)))
('n', (1, 1))
>>> [widest(((0, 1), (1, 3), (2, 3), (1, 1))), widest(((0, 1), (1, 2), (1, 2), (1, 1)))]
[('s', (1, 3)), ('s', (1, 2))]

>>> from twofarplayers.tasks import allowed, least_solving, shows_solved, solved, Task
>>> rows = ['task', 'first x w', 'second y z', 'given x z ends a r', 'given w y ends c q']
>>> apart = Task('\\n'.join(rows + ['given x y ends a p', 'given x y ends b p', 'given x y ends b q']))
>>> [apart.first, apart.pairs, allowed(apart, 'x', 'y')]
[('x', 'w'), (('w', 'y'), ('x', 'y'), ('x', 'z')), (('a', 'p'), ('b', 'p'), ('b', 'q'))]
>>> [solved(apart, 0), least_solving(apart, 3), least_solving(apart, 0)]
[('no',), 1, None]
>>> solved(apart, 1)
('yes', (('w', 'y', ('c', 'q', 'c', 'q')), ('x', 'y', ('a', 'p', 'b', 'q')), ('x', 'z', ('a', 'r', 'a', 'r'))))
>>> ends = ['given o o ends o o', 'given i i ends i i', 'given o i ends o o', 'given o i ends i i', 'given i o ends o o', 'given i o ends i i']
>>> alike = Task('\\n'.join(['task', 'first o i', 'second o i'] + ends))
>>> [least_solving(alike, 5), shows_solved(alike, 2, ('no',)), shows_solved(apart, 2, ('no',)), solved(apart, 2)[0]]
[None, True, False, 'yes']

>>> from twofarplayers.lawlots import barring, both, either, lets_all, shows_lets_all, turned
>>> from twofarplayers.laws import Law, lets
>>> every = Law('law\\nstate a often\\non n a\\non f a\\non s a')
>>> heard = Law('law\\nstate a\\non n b\\non f a\\non s a\\nstate b often\\non n b\\non f a\\non s a')
>>> first = Law('law\\nstate a\\non n b\\non f a\\non s b\\nstate b often\\non n b\\non f a\\non s b')
>>> [[lets(rule, loss) for loss in (('', 'n'), ('', 'sf'), ('n', 's'), ('', 'f'))] for rule in (every, heard, first)]
[[True, True, True, True], [True, False, False, False], [True, True, True, False]]
>>> [[lets(rule, loss) for loss in (('', 'sf'), ('', 's'), ('', 'f'))] for rule in (turned(first), both(first, turned(first)), either(first, turned(first)))]
[[True, False, True], [True, False, False], [True, True, True]]
>>> [[lets(rule, loss) for loss in (('n', 's'), ('f', 's'), ('nn', 's'))] for rule in (barring(every, ('n', 's')), barring(barring(every, ('n', 's')), ('f', 's')))]
[[False, True, True], [False, False, True]]
>>> [lets_all(heard, first), lets_all(every, first)[0], lets(first, lets_all(every, first)[1]), shows_lets_all(first, heard, ('parting', ('', 's')))]
[('all',), 'parting', False, True]
>>> [shows_lets_all(first, heard, ('all',)), shows_lets_all(first, heard, ('parting', ('', 'n'))), shows_lets_all(heard, first, ('all',))]
[False, False, True]

>>> from twofarplayers.bench import Bench
>>> from twofarplayers.desk import Desk
>>> from twofarplayers.journals import journal, read_journal
>>> every, first = 'law\\nstate a often\\non n a\\non f a\\non s a', 'law\\nstate a\\non n b\\non f a\\non s b\\nstate b often\\non n b\\non f a\\non s b'
>>> bench = Bench(every)
>>> [bench.verdict, bench.bar(('n', 's')), bench.verdict, bench.bar(('f', 's')), bench.verdict, bench.done]
['no', None, 'no', None, 'yes', 2]
>>> [bench.undo(), bench.verdict, bench.redo(), bench.verdict, bench.tried(lambda held: [held.widen(every), held.verdict]), bench.verdict]
[None, 'no', None, 'yes', [None, 'no'], 'yes']
>>> journal(bench).split('\\n')[6:]
['bar n s', 'bar f s']
>>> desk = Desk('bench\\n' + first + '\\nturn')
>>> [desk.say(line) for line in ('verdict', 'lets - s', 'lets s f', 'begins sss', 'rounds', 'meet ' + first.replace('\\n', ';'), 'lets - sf', 'lets - f', 'undo', 'lets - f')]
['yes', 'no', 'yes', 'yes', 'none', 'ok', 'yes', 'no', 'ok', 'yes']
>>> [read_journal(journal(bench)) == bench, bench.copy() == bench, Desk('bench\\nlaw\\nstate z\\non n z\\non f z\\non s z').say('rounds')]
[True, True, '0']
"""

import doctest
import pathlib
import sys

from tests.bench_samples import FIRST, HEARD
from tests.cases import Case
from tests.pair_samples import ODD, RASH, TOLD
from tests.samples import EVERY, NEVER, SURE
from tests.task_samples import ALIKE, APART
from twofarplayers.bench import Bench
from twofarplayers.desk import Desk
from twofarplayers.errors import BadLaw, BadPair, TooLong
from twofarplayers.judging import outcomes
from twofarplayers.laws import begins, Law, lets
from twofarplayers.losses import least, shifted
from twofarplayers.nearness import near
from twofarplayers.pairs import ends, heard, Pair
from twofarplayers.rounds import barred_places, many_beginnings
from twofarplayers.rows import numbers, place
from twofarplayers.talks import talked
from twofarplayers.tasks import solved, Task
from twofarplayers.twins import twins
from twofarplayers.verdicts import can_agree, shows_can_agree


class Examples(Case):
    def test_examples(self):
        found = doctest.testmod(sys.modules[__name__])
        self.assertEqual((found.failed, found.attempted), (0, 108))

    def test_examples_of_the_readme(self):
        readme = pathlib.Path(__file__).resolve().parent.parent / "README.md"
        found = doctest.testfile(str(readme), module_relative=False)
        self.assertEqual(found.failed, 0)
        self.assertGreater(found.attempted, 0)

    def test_remarks_on_laws(self):
        lines = ["law", "state a", "on n a", "on f b", "on s a"]
        self.refused(BadLaw, 4, Law, "\n".join(lines))
        self.refused(BadLaw, 5, Law, "\n".join(lines[:4]))
        first = Law("law\nstate go often\non n go\non f go\non s end\nstate end\non n end\non f end\non s end")
        for loss in (("", "n"), ("", "f"), ("ffn", "nf")):
            self.assertTrue(lets(first, loss))
        for loss in (("s", "n"), ("", "nfs"), ("ffns", "f")):
            self.assertFalse(lets(first, loss))
        self.assertFalse(begins(first, "s"))

    def test_remarks_on_losses(self):
        self.told(("", "nf"), least, ("nfn", "fn"))
        self.refused(TooLong, 210, shifted, ("n" * 140, "s"), "f" * 70)

    def test_remarks_on_rows(self):
        self.told((2, 1), numbers, "n")
        self.told((4, 3), numbers, "nf")

    def test_remarks_on_twins(self):
        for rounds in range(10):
            self.told(0, place, "s" * rounds)
        self.told((), twins, ("", "s"))
        self.assertEqual([place("sf"), place("fs")], [2, 6])

    def test_remarks_on_verdicts(self):
        once = Law("law\nstate a often\non n b\non f b\non s a\nstate b often\non n c\non f c\non s d\nstate c often\n"
                   "on n c\non f c\non s c\nstate d\non n c\non f c\non s d")
        for loss in (("f", "s"), ("sf", "s"), ("ssn", "s"), ("n", "s")):
            self.told(False, lets, once, loss)
        for loss in (("", "s"), ("ff", "s"), ("sfsn", "s"), ("f", "sn"), ("", "n")):
            self.told(True, lets, once, loss)
        f_alone = Law(once.text.replace("on n b", "on n c"))
        for loss in (("f", "s"), ("sf", "s")):
            self.told(False, lets, f_alone, loss)
        self.assertEqual(can_agree(f_alone)[0], "no")
        self.told(False, shows_can_agree, f_alone, ("yes", (("f", "s"), ("n", "s"))))

    def test_remarks_on_talks(self):
        # The first one hears the second one's 1, and has 2; the second one, two above the mark, ends on its own wish.
        self.told((1, 2, 3), lambda: talked((("", "n"),), ("", "f"), 1)[1])
        self.told((4, 6, None), lambda: talked((("", "n"),), ("", "f"), 2)[2])
        for rounds, places in ((1, [2, 1]), (2, [6, 5])):
            self.assertEqual([place("fs"[:rounds]), place("ns"[:rounds])], places)

    def test_remarks_on_rounds(self):
        once = Law("law\nstate g often\non n g\non f h\non s h\nstate h often\non n h\non f b\non s b\n"
                   "state b\non n b\non f b\non s b")
        for rounds in (0, 1, 2, 200):
            self.told(1, many_beginnings, SURE, rounds)
        for loss, (one, other) in ((("", "n"), (True, True)), (("nf", "n"), (False, True)), (("fs", "n"), (False, False))):
            self.told(one, lets, SURE, loss)
            self.told(other, lets, once, loss)
        self.told(tuple(place(word) for word in ("ss", "sf", "fs", "ff")), barred_places, once, 2)

    def test_remarks_on_pairs(self):
        self.refused(BadPair, 4, Pair, "pair\nfirst z z\nstate z a 0 z z z z")
        # The first player ends at once on its own wish, and calls it for ever; the second one ends on what it hears.
        told = Pair(TOLD)
        for one in (0, 1):
            for other in (0, 1):
                self.told(((0, one), (1, one)), ends, told, (one, other), ("", "n"))
                self.told(((0, one), (6, one)), ends, told, (one, other), ("fffff", "s"))
        self.told(("o", "o"), heard, told, ("o", "w"), "s")

    def test_remarks_on_judging(self):
        told, rash, odd = Pair(TOLD), Pair(RASH), Pair(ODD)
        self.told(((0, 0), (1, 0)), ends, told, (0, 0), ("nnf", "f"))
        self.told(((0, 0), None), ends, told, (0, 1), ("", "f"))
        for one in (0, 1):
            for other in (0, 1):
                self.told(((one, other),), outcomes, EVERY, rash, (one, other))
                self.told(((0, 0),), outcomes, EVERY, odd, (one, other))

    def test_remarks_on_nearness(self):
        self.told((4, 3), numbers, "nf")
        self.told((2, 1), numbers, "n")
        self.told(((1, 1), (4, 1)), near, ((7, 1), (-2, 1)), "n")

    def test_remarks_on_tasks(self):
        # x ends on a where it never heard, y on q: so three steps lead from a to q, by p and b.
        _, rows = solved(Task(APART), 1)
        self.assertEqual([row for one, other, row in rows if (one, other) == ("x", "y")], [("a", "p", "b", "q")])
        for rounds in range(6):
            self.told(("no",), solved, Task(ALIKE), rounds)

    def test_remarks_on_lawlots(self):
        # What has n again and again; what is not f from some round on.
        for loss in (("", "n"), ("ff", "sn"), ("", "nfs")):
            self.told(True, lets, Law(HEARD), loss)
        for loss in (("n", "s"), ("", "fs"), ("nn", "f")):
            self.told(False, lets, Law(HEARD), loss)
        for loss in (("ff", "s"), ("", "fs"), ("nf", "fffn")):
            self.told(True, lets, Law(FIRST), loss)
        for loss in (("", "f"), ("nns", "ff")):
            self.told(False, lets, Law(FIRST), loss)

    def test_remarks_on_the_bench(self):
        for losses, word in (([], "no"), ([("n", "s")], "no"), ([("f", "s")], "no"), ([("f", "s"), ("n", "s")], "yes")):
            bench = Bench(EVERY.text)
            for loss in losses:
                bench.bar(loss)
            self.assertEqual(bench.verdict, word)
        desk = Desk("bench\n" + FIRST)
        self.assertEqual([desk.say(line) for line in ("lets - s", "lets - f", "turn", "lets - s", "lets - f")], ["yes", "no", "ok", "no", "yes"])
        self.assertEqual([Desk("bench\n" + NEVER.text).say(line) for line in ("begins -", "begins n", "rounds")], ["no", "no", "0"])
