"""The interface: each name is there, in its module, with its arguments."""

import importlib
import inspect
import unittest

FUNCTIONS = {
    "programs": ["open_names(program)", "givens(program)", "takes(program)", "ends(program)", "part(program, place)",
                 "taken_at(program, place)"],
    "naming": ["renamed(program, names)", "standard(program)", "applied(program, other)", "put_in(program, name, other)",
               "same(program, other)"],
    "stepping": ["steps(program)", "stepped(program, place)", "rest(program)", "many_steps(program)",
                 "is_way(program, other, thing)"],
    "live": [],
    "kinds": ["numbered(kind)", "sides(kind)", "is_even(kind)"],
    "kinding": ["is_kinding(program, thing)", "fits(program, kind)", "kinding(program)", "widest(program)"],
    "filling": ["filled(kind, fillings)", "filling(kind, other)", "common(kind, other)", "given_kind(kind, other)"],
    "likeness": ["alike(program, other)", "callers_alike(program, other)", "parting(program, other)",
                 "callers_kind(program, other)"],
    "reading": ["program_of(kind)", "fault_of(kind)", "sorts(program)", "steps_by_kind(program)"],
    "counting": ["many(givens, names)", "many_rests(givens, names)", "many_in_order(givens, names)", "number_of(program)",
                 "is_in_order(program)", "program_at(givens, number)", "programs(givens)"],
    "adding": ["sums(program, m, values)", "polynomial(program)", "is_ones(program, m, thing)", "ones(program, m)",
               "many_ones(program, m)", "closed_part(program)"],
    "webs": ["wires(program)", "camps(program)", "odd_ring(program)", "hues(program)", "is_odd_ring(program, thing)",
             "is_hues(program, thing)"],
    "texts": ["text(program)", "kind_text(kind)", "read(text)", "read_kind(text)"],
    "books": [],
    "deals": [],
    "journals": ["recovered(journal)", "merged(one, other)", "snapshot(book)"],
    "desk": [],
}
CLASSES = {
    "programs.Program(words)": ["__eq__(other)"],
    "live.Run(program)": ["program()", "many()", "step(place)", "back()", "to_rest()", "copy()"],
    "kinds.Kind(words)": ["__eq__(other)"],
    "books.Book()": ["put(name, program)", "drop(name)", "undo()", "redo()", "names()", "uses(name)", "users(name)", "order()",
                     "changed()", "worked()", "differing(one, other)", "program(name)", "kind(name)", "rest(name)", "why(name)",
                     "version()", "at(version)", "copy()", "deal()", "journal()"],
    "deals.Deal(book)": ["put(name, program)", "drop(name)", "names()", "program(name)", "kind(name)", "rest(name)", "why(name)",
                         "uses(name)", "users(name)", "order()", "deeds()", "asked()", "commit()", "leave()"],
    "desk.Desk()": ["tell(line)", "undoable()"],
}


def signature(call):
    """Return how a function is called, without what stands ahead of its arguments."""
    return f"{call.__name__}({', '.join(inspect.signature(call).parameters)})"


class InterfaceTest(unittest.TestCase):

    def test_functions(self):
        for name, rows in FUNCTIONS.items():
            module = importlib.import_module(f"oncekinds.{name}")
            for row in rows:
                call = getattr(module, row.split("(")[0])
                self.assertTrue(inspect.isfunction(call), row)
                self.assertEqual((call.__module__, signature(call)), (module.__name__, row))

    def test_classes(self):
        for row, methods in CLASSES.items():
            place, _, rest = row.partition("(")
            name, _, word = place.partition(".")
            told = getattr(importlib.import_module(f"oncekinds.{name}"), word)
            self.assertEqual((inspect.isclass(told), told.__module__, told.__name__), (True, f"oncekinds.{name}", word))
            self.assertEqual(f"{place}({', '.join(inspect.signature(told).parameters)})", row)
            for method in methods:
                own = vars(told)[method.split("(")[0]]
                self.assertTrue(inspect.isfunction(own), method)
                self.assertEqual(signature(own).replace("(self, ", "(").replace("(self)", "()"), method)

    def test_equal_to_nothing_else(self):
        words = importlib.import_module("oncekinds.programs").Program(("x",)), importlib.import_module("oncekinds.kinds").Kind((0,))
        book, desk = importlib.import_module("oncekinds.books").Book(), importlib.import_module("oncekinds.desk").Desk()
        rows = [*words, importlib.import_module("oncekinds.live").Run(words[0]), book, book.deal(), desk, ("x",), (0,), None, 0]
        for at, one in enumerate(rows):
            for to, other in enumerate(rows):
                self.assertIs(one == other, at == to)
                self.assertIs(one != other, at != to)


if __name__ == "__main__":
    unittest.main()
