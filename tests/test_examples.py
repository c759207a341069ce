"""The examples of the document, and those of README.md."""

import doctest
import pathlib
import unittest

README = pathlib.Path(__file__).resolve().parent.parent / "README.md"

EXAMPLES = """
>>> from classtable.cyclo import root
>>> str(root(3) + root(3, 2))
'-1'

>>> from classtable.cyclo import root
>>> str(root(6) * root(4))
'E12:0,-1,0,1'

>>> from classtable.permutation import Permutation
>>> str(Permutation((1, 0, 2)) * Permutation((0, 2, 1)))
'(0 1 2)'

>>> from classtable.group import cyclic
>>> cyclic(5).product(3, 4)
2

>>> from classtable.group import cyclic
>>> from classtable.splitting import modular_rows
>>> modular_rows(cyclic(2))
(3, ((1, 1), (1, 2)))

>>> from classtable.splitting import prime_of
>>> prime_of(1, 1)
3

>>> from classtable.cyclo import of_integer
>>> from classtable.functions import everywhere
>>> from classtable.group import cyclic
>>> str(everywhere(cyclic(3), of_integer(2)).inner(everywhere(cyclic(3), of_integer(2))))
'4'

>>> from classtable.group import cyclic
>>> from classtable.normal import normal_subgroups
>>> from classtable.table import character_table
>>> normal_subgroups(character_table(cyclic(4)))
((0,), (0, 1), (0, 1, 2, 3))

>>> from classtable.group import cyclic
>>> from classtable.lattice import chief_factors
>>> from classtable.table import character_table
>>> chief_factors(character_table(cyclic(6)))
(2, 3)

>>> from classtable.console import Console
>>> console = Console()
>>> console.enter("cycle two ; 2").text
'order 2'

>>> console.enter("table two").text
'1, 1 | 1, -1'
"""


def failures(text, name):
    test = doctest.DocTestParser().get_doctest(text, {}, name, name, 0)
    found = []
    result = doctest.DocTestRunner(verbose=False).run(test, out=found.append)
    return result.attempted, "".join(found)


class Examples(unittest.TestCase):
    def test_document(self):
        attempted, told = failures(EXAMPLES, "document")
        self.assertEqual((attempted, told), (29, ""))

    def test_readme(self):
        attempted, told = failures(README.read_text(encoding="utf-8").replace("```", ""), "readme")
        self.assertGreater(attempted, 10)
        self.assertEqual(told, "")


if __name__ == "__main__":
    unittest.main()
