"""The examples of the document."""

import unittest

from oncekinds.adding import many_ones, polynomial, sums
from oncekinds.books import Book
from oncekinds.counting import many, many_in_order, many_rests, programs
from oncekinds.kinding import widest
from oncekinds.likeness import alike, callers_alike
from oncekinds.programs import Program
from oncekinds.reading import fault_of, program_of
from oncekinds.stepping import rest
from oncekinds.texts import kind_text, read, read_kind, text
from oncekinds.webs import camps, wires


class ExamplesTest(unittest.TestCase):

    def test_e01(self):
        self.assertEqual((text(Program(("@", "/x", "x", "/y", "y"))), rest(Program(("@", "/x", "x", "/y", "y"))).words),
                         ('([x] x [y] y)', ('/y', 'y')))

    def test_e02(self):
        self.assertEqual((widest(read("[f] [x] (f x)")).words, kind_text(widest(read("[f] [x] (f x)")))),
                         (('>', '>', 0, 1, '>', 0, 1), '(a > b) > a > b'))

    def test_e03(self):
        self.assertEqual((alike(read("[g] ([u] u g)"), read("[f] f")), alike(read("[f] f"), read("[f] [x] (f x)")),
                          callers_alike(read("[f] f"), read("[f] [x] (f x)"))), (True, False, True))

    def test_e04(self):
        self.assertEqual(text(program_of(read_kind("((a > b) > c) > (a > b) > c"))), '[a] [b] (a [c] (b c))')

    def test_e05(self):
        rows = ["(a > b) > b", "(a > a) > b > b", "((a > b) > c) > (a > d) > (c > b) > d"]
        self.assertEqual([fault_of(read_kind(s)) for s in rows], [('letter', 0), ('left', 1), ('stops', 8)])

    def test_e06(self):
        self.assertEqual(([many(n, 0) for n in range(4)], many_rests(1, 0), many_in_order(1, 0)), ([1, 5, 60, 1105], 3, 4))

    def test_e07(self):
        self.assertEqual([text(p) for p in programs(1)], ['[a] [b] (a b)', '[a] [b] (b a)', '[a] ([b] b a)',
                                                          '[a] (a [b] b)', '([a] a [b] b)'])

    def test_e08(self):
        p = read("[f] [x] (f x)")
        self.assertEqual((sums(p, 5, (2, 4)), polynomial(p), wires(p), camps(p), many_ones(p, 3)),
                         ((0, 2, 1, 2, 4), (2, -3, 1), [(1, 2), (1, 2), (1, 2)], (True, False), 2))

    def test_e09(self):
        b = Book()
        b.put("twice", read("[x] (g x)"))
        b.put("g", read("[y] y"))
        self.assertEqual((kind_text(b.kind("twice")), b.changed(), b.worked(), b.order()),
                         ('a > a', ['g', 'twice'], ['g', 'twice'], ['g', 'twice']))


if __name__ == "__main__":
    unittest.main()
