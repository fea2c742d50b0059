"""The examples of the document, as they stand there.

>>> from twofarplayers.laws import after, begins, Law, lets, shows_some_loss, some_loss
>>> rows = ['law', 'state a often', 'on n a', 'on f b', 'on s b', 'state b', 'on n a', 'on f b', 'on s b']
>>> heard = Law('\\n'.join(rows))
>>> [heard.names, heard.often, len(heard), after(heard, ''), after(heard, 'nffs'), after(heard, 'fn')]
[('a', 'b'), ('a',), 2, 'a', 'b', 'a']
>>> [lets(heard, loss) for loss in (('', 'n'), ('nnn', 'fs'), ('f', 'sn'), ('ns', 'f'))]
[True, False, True, False]
>>> [begins(heard, 'fffsss'), shows_some_loss(heard, ('s', 'nf')), shows_some_loss(heard, ('n', 'f')), shows_some_loss(heard, None)]
[True, True, False, False]
>>> never = Law('law\\nstate z\\non n z\\non f z\\non s z')
>>> [some_loss(never), begins(never, ''), lets(never, ('', 'n')), never.often]
[None, False, False, ()]
>>> first = Law('law\\nstate go often\\non n go\\non f go\\non s end\\nstate end\\non n end\\non f end\\non s end')
>>> [begins(first, 'nfnf'), begins(first, 'nfs'), after(first, 'nfsn'), lets(first, ('fnf', 'nnf'))]
[True, False, 'end', True]

>>> from twofarplayers.losses import are_alike, least, letters_of, shifted, tail
>>> [least(('nfn', 'fn')), least(('nf', 'fnfn')), least(('s', 'sss')), least(('', 'nns'))]
[('', 'nf'), ('nf', 'fn'), ('', 's'), ('', 'nns')]
>>> [are_alike(('nfn', 'fn'), ('nf', 'nfnf')), are_alike(('nf', 'n'), ('nf', 'f')), letters_of(('n', 'fs'), 6), letters_of(('n', 'fs'), 0)]
[True, False, 'nfsfsf', '']
>>> [tail(('n', 'fff')), tail(('ff', 'fn')), tail(('', 's')), tail(('fff', 'ss'))]
['f', 'fair', 's', 's']
>>> [shifted(('', 'nf'), 'nf'), shifted(('f', 'n'), 'nn'), shifted(('', 'nf'), 'nfn'), shifted(('ss', 'f'), '')]
[('', 'nf'), ('nnf', 'n'), ('nfn', 'nf'), ('ss', 'f')]

>>> from twofarplayers.rows import blind, neighbours, numbers, place, whole_row, word_at
>>> whole_row(2)
('ss', 'sn', 'sf', 'nf', 'nn', 'ns', 'fs', 'fn', 'ff')
>>> [place('nf'), numbers('nf'), word_at(2, 5), place(''), numbers(''), whole_row(0)]
[3, (4, 3), 'ns', 0, (0, 1), ('',)]
>>> [neighbours('nn'), neighbours('ss'), neighbours('ff')]
[('nf', 'ns'), (None, 'sn'), ('fn', None)]
>>> [blind('sf', 'nf'), blind('sn', 'sf'), blind('ss', 'nn'), blind('n', 'n')]
[('second',), ('first',), (), ('first', 'second')]
>>> [numbers('s' * 5), numbers('f' * 5), place('nnn'), word_at(20, 3 ** 20 - 1) == 'f' * 20]
[(0, 1), (242, 243), 13, True]
"""

import doctest
import pathlib
import sys

from tests.cases import Case
from twofarplayers.errors import BadLaw, TooLong
from twofarplayers.laws import begins, Law, lets
from twofarplayers.losses import least, shifted
from twofarplayers.rows import numbers


class Examples(Case):
    def test_examples(self):
        found = doctest.testmod(sys.modules[__name__])
        self.assertEqual((found.failed, found.attempted), (0, 21))

    def test_examples_of_the_readme(self):
        readme = pathlib.Path(__file__).resolve().parent.parent / "README.md"
        found = doctest.testfile(str(readme), module_relative=False)
        self.assertEqual(found.failed, 0)
        self.assertGreater(found.attempted, 0)

    def test_remarks_on_laws(self):
        lines = ["law", "state a", "on n a", "on f b", "on s a"]
        self.refused(BadLaw, 4, Law, "\n".join(lines))
        self.refused(BadLaw, 5, Law, "\n".join(lines[:4]))
        first = Law("law\nstate go often\non n go\non f go\non s end\nstate end\non n end\non f end\non s end")
        for loss in (("", "n"), ("", "f"), ("ffn", "nf")):
            self.assertTrue(lets(first, loss))
        for loss in (("s", "n"), ("", "nfs"), ("ffns", "f")):
            self.assertFalse(lets(first, loss))
        self.assertFalse(begins(first, "s"))

    def test_remarks_on_losses(self):
        self.told(("", "nf"), least, ("nfn", "fn"))
        self.refused(TooLong, 210, shifted, ("n" * 140, "s"), "f" * 70)

    def test_remarks_on_rows(self):
        self.told((2, 1), numbers, "n")
        self.told((4, 3), numbers, "nf")
