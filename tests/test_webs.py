"""[7.3] and [7.4] Webs, their camps, odd rings and hues."""

import unittest
from functools import lru_cache
from itertools import product

from oncekinds.adding import closed_part, many_ones, ones, polynomial
from oncekinds.counting import many, program_at
from oncekinds.errors import KindError, NotClosed, TooMany
from oncekinds.naming import renamed
from oncekinds.programs import Program, ends, givens
from oncekinds.webs import camps, hues, is_hues, is_odd_ring, odd_ring, wires
from tests.samples import applied_row, draws, fresh, leftward, selves, selves_inside, things
from tests.trees import programs_with
from tests.web_shapes import circle, cornered, crossed, flower, petersen, program_with_web

CLOSED = [words for givens_ in range(3) for words in programs_with(givens_)]
GREATER = programs_with(3)[::4]
OPEN = [("x",), ("@", "x", "y"), ("/x", "@", "x", "y"), ("@", "/x", "x", "y"), leftward(fresh(60), set())]
SELF = ("/x", "x")


def cornered_often(wires_, knots):
    """Return the wires with three knots in the place of each of these."""
    for knot in knots:
        wires_ = cornered(wires_, knot)
    return wires_


# Each has 36 wires and no part, but the whole, that is closed; none has hues.
WITHOUT_HUES = [
    cornered_often(flower(), ("a0", "b2")),
    cornered_often(petersen(), ("o0", "o1", "o3", "i0", "i2", "i3", "i4")),
    cornered_often(crossed(petersen(), petersen()), ("po3", "pi4", "qi2")),
    cornered_often(flower(), ("c4", "c4x")),
]
WEBS = [petersen(), flower(), crossed(petersen(), petersen()), cornered(petersen(), "i1"), circle(2, True),
        circle(2, False), circle(3, True), circle(4, True), circle(5, False), circle(12, True), circle(12, False),
        [("a", "b"), ("a", "b"), ("a", "b")], [("a", "a"), ("a", "b"), ("b", "b")],
        [("a", "a"), ("a", "b"), ("b", "c"), ("b", "d"), ("c", "c"), ("d", "d")],
        [("a", "b"), ("a", "b"), ("a", "c"), ("b", "d"), ("c", "d"), ("c", "d")]] + WITHOUT_HUES


def knots_of(words):
    """Return the list of the places, but 0, that are no names."""
    return [at for at, word in enumerate(words) if at > 0 and word[0] in "@/"]


def wires_by_rules(words):
    """Return the ascending list of the wires, told place by place as the document tells them."""
    behind = ends(Program(words))
    found, at_nought = [], []
    for place in range(1, len(words)):
        whole = max(at for at in range(place) if words[at] == "@" and place in (at + 1, behind[at + 1])
                    or words[at][0] == "/" and place == at + 1)
        end = words.index("/" + words[place]) if words[place][0] not in "@/" else place
        (at_nought if 0 in (whole, end) else found).append((whole, end))
    if words[1:] != (words[0][1:],):
        found.append(tuple(sum(pair) for pair in at_nought))
    return sorted(tuple(sorted(pair)) for pair in found)


def is_right_ring(words, ring):
    """Tell whether a tuple of knots is an odd ring."""
    pairs = [set(pair) for pair in kept_wires(words)]
    return (len(ring) % 2 == 1 and len(set(ring)) == len(ring) and set(ring) <= set(knots_of(words))
            and all({knot, ring[at - 1]} in pairs for at, knot in enumerate(ring)))


@lru_cache(maxsize=None)
def kept_wires(words):
    """Return the tuple of the wires, told by the rules."""
    return tuple(wires_by_rules(words))


def are_right_hues(words, thing):
    """Tell whether a tuple of 0, 1 and 2 is one of hues."""
    rows = {knot: [] for knot in knots_of(words)}
    for pair, hue in zip(kept_wires(words), thing):
        for knot in pair:
            rows[knot].append(hue)
    return all(sorted(row) == [0, 1, 2] for row in rows.values())


class WiresTest(unittest.TestCase):

    def test_some_programs(self):
        self.assertEqual(wires(Program(SELF)), [])
        self.assertEqual(wires(Program(("/f", "/x", "@", "f", "x"))), [(1, 2), (1, 2), (1, 2)])
        self.assertEqual(wires(Program(("@", "/x", "x", "/y", "y"))), [(1, 1), (1, 3), (3, 3)])
        self.assertEqual(wires(Program(("/x", "@", "x", "/y", "y"))), [(1, 1), (1, 3), (3, 3)])
        self.assertEqual(wires(Program(("/x", "@", "/y", "y", "x"))), [(1, 1), (1, 2), (2, 2)])
        self.assertIs(type(wires(Program(SELF))), list)

    def test_by_the_rules(self):
        for words in CLOSED + GREATER:
            self.assertEqual(wires(Program(words)), wires_by_rules(words), words)

    def test_three_ends_at_each_knot(self):
        drawn = draws(2)
        rows = CLOSED + GREATER + [program_at(12, next(drawn) ** 4 % many(12, 0)).words for _ in range(50)]
        for words in rows:
            told = wires(Program(words))
            self.assertEqual(sorted(knot for pair in told for knot in pair), sorted(knots_of(words) * 3))
            self.assertEqual(len(told), 3 * givens(Program(words)))
            self.assertEqual(told, sorted(tuple(sorted(pair)) for pair in told))

    def test_webs_that_are_known(self):
        for web in WEBS:
            for root in range(0, len(web), 3):
                words, places = program_with_web(web, root)
                expected = sorted(tuple(sorted((places[one], places[other]))) for one, other in web)
                self.assertEqual(wires(Program(words)), expected)

    def test_names_change_nothing(self):
        for words in CLOSED[::3]:
            names = [word[1:] for word in words if word[0] == "/"]
            other = renamed(Program(words), dict(zip(names, reversed(fresh(len(names))))))
            self.assertEqual(wires(other), wires(Program(words)))

    def test_the_list_is_a_new_one(self):
        program = Program(("/f", "/x", "@", "f", "x"))
        wires(program).clear()
        self.assertEqual(wires(program), [(1, 2), (1, 2), (1, 2)])
        self.assertIsNot(wires(program), wires(program))


class ErrorsTest(unittest.TestCase):

    def test_not_closed(self):
        for words in OPEN:
            for call in (wires, camps, odd_ring, hues):
                with self.assertRaises(NotClosed) as caught:
                    call(Program(words))
                self.assertIsInstance(caught.exception, KindError)
            for call in (is_odd_ring, is_hues):
                for thing in ((), (1,), None, [0], (0, 1, 2)):
                    with self.assertRaises(NotClosed):
                        call(Program(words), thing)

    def test_too_many_wires(self):
        rows = [program_with_web(circle(13, True), 0)[0], applied_row(selves(14)), selves_inside(200),
                program_with_web(cornered(WITHOUT_HUES[0], "a2"), 4)[0]]
        for words in rows:
            self.assertGreater(len(wires(Program(words))), 36)
            with self.assertRaises(TooMany) as caught:
                hues(Program(words))
            self.assertEqual(caught.exception.most, 36)
            self.assertIsInstance(caught.exception, KindError)
            # Of the others there is no bound.
            self.assertIs(camps(Program(words)) is None, odd_ring(Program(words)) is not None)
            self.assertIs(is_hues(Program(words), (0,)), False)


class CampsTest(unittest.TestCase):

    def test_some_programs(self):
        self.assertEqual(camps(Program(SELF)), ())
        self.assertIsNone(odd_ring(Program(SELF)))
        self.assertEqual(camps(Program(("/f", "/x", "@", "f", "x"))), (True, False))
        self.assertIsNone(odd_ring(Program(("/f", "/x", "@", "f", "x"))))
        self.assertIsNone(camps(Program(("@", "/x", "x", "/y", "y"))))
        self.assertIn(odd_ring(Program(("@", "/x", "x", "/y", "y"))), [(1,), (3,)])

    def looked_at(self, words):
        """Look at the camps and the odd ring of a program, one of which must be there; return the camps."""
        program = Program(words)
        told, ring, knots = camps(program), odd_ring(program), knots_of(words)
        self.assertIs(told is None, ring is not None)
        if told is None:
            self.assertIs(type(ring), tuple)
            self.assertTrue(is_right_ring(words, ring), (words, ring))
            self.assertIs(is_odd_ring(program, ring), True)
        else:
            self.assertEqual((type(told), len(told)), (tuple, len(knots)))
            self.assertTrue(all(type(flag) is bool for flag in told))
            self.assertTrue(told[:1] in ((), (True,)))
            flags = dict(zip(knots, told))
            self.assertTrue(all(flags[one] != flags[other] for one, other in wires_by_rules(words)))
        return told

    def test_all_small_programs(self):
        for words in CLOSED + GREATER:
            told = self.looked_at(words)
            # The seventh fact.
            self.assertIs(told is None, many_ones(Program(words), 3) == 0)

    def test_webs_that_are_known(self):
        for web in WEBS:
            for root in (0, len(web) - 1):
                self.looked_at(program_with_web(web, root)[0])
        for many_knots in (2, 4, 6, 12):
            self.assertIsNotNone(camps(Program(program_with_web(circle(many_knots, True), 1)[0])))
            self.assertIsNone(camps(Program(program_with_web(circle(many_knots, False), 1)[0])))
        for many_knots in (3, 5, 11):
            self.assertIsNone(camps(Program(program_with_web(circle(many_knots, True), 1)[0])))
            self.assertIsNotNone(camps(Program(program_with_web(circle(many_knots, False), 1)[0])))

    def test_greater_programs(self):
        drawn = draws(6)
        for _ in range(60):
            self.looked_at(program_at(12, next(drawn) ** 4 % many(12, 0)).words)

    def test_all_rings_of_three(self):
        for words in [CLOSED[9], CLOSED[33], program_with_web(circle(3, True), 0)[0], program_with_web(petersen(), 0)[0]]:
            for length in (1, 2, 3):
                for ring in product(range(-1, len(words) + 1), repeat=length):
                    self.assertIs(is_odd_ring(Program(words), ring), is_right_ring(words, ring))

    def test_no_rings(self):
        for web in (circle(3, True), petersen(), flower()):
            words, places = program_with_web(web, 2)
            program = Program(words)
            ring = odd_ring(program)
            turned = ring[1:] + ring[:1]
            self.assertIs(is_odd_ring(program, turned), True)
            self.assertIs(is_odd_ring(program, turned[::-1]), True)
            wrong = [(), ring[1:], ring[:-1], ring + ring, ring + ring[:1], ring * 3, list(ring), ring[:1], (0,) + ring[1:],
                     ring[:-1] + (len(words),), ring[:-1] + (ring[-1] - len(words),), dict.fromkeys(ring), {0: ring}]
            wrong += [ring[:-1] + (thing,) for thing in things() if thing not in ring]
            for thing in wrong:
                with self.subTest(thing=repr(thing)[:60]):
                    self.assertIs(is_odd_ring(program, thing), False)

    def test_flags_are_no_knots(self):
        words, places = program_with_web(circle(3, True), 0)
        program = Program(("@", "/x", "x", "/y", "y"))
        self.assertIs(is_odd_ring(program, (1,)), True)
        self.assertIs(is_odd_ring(program, (True,)), False)
        rings = [ring for ring in product(range(len(words)), repeat=3) if is_right_ring(words, ring) and 1 in ring]
        self.assertTrue(rings)
        for ring in rings:
            self.assertIs(is_odd_ring(Program(words), ring), True)
            self.assertIs(is_odd_ring(Program(words), tuple(True if knot == 1 else knot for knot in ring)), False)

    def test_any_object_is_judged(self):
        for words in (SELF, ("@", "/x", "x", "/y", "y"), ("/f", "/x", "@", "f", "x")):
            for thing in things():
                with self.subTest(thing=repr(thing)[:60]):
                    self.assertIs(is_odd_ring(Program(words), thing), False)
                    self.assertIs(is_odd_ring(Program(words), (thing,)), thing == 1 and type(thing) is int and words[0] == "@")


class HuesTest(unittest.TestCase):

    def looked_at(self, words):
        """Look at the hues of a program, and return them."""
        program = Program(words)
        told = hues(program)
        if told is not None:
            self.assertEqual((type(told), len(told)), (tuple, len(wires(program))))
            self.assertTrue(are_right_hues(words, told))
            self.assertIs(is_hues(program, told), True)
        return told

    def test_some_programs(self):
        self.assertEqual(hues(Program(SELF)), ())
        self.assertEqual(sorted(hues(Program(("/f", "/x", "@", "f", "x")))), [0, 1, 2])
        self.assertIsNone(hues(Program(("@", "/x", "x", "/y", "y"))))

    def test_all_small_programs(self):
        for words in CLOSED + GREATER:
            # The eighth fact.
            self.assertIs(self.looked_at(words) is None, ones(Program(words), 4) is None)

    def test_against_all_choices(self):
        for words in CLOSED + GREATER[::40]:
            many_wires = len(wires(Program(words)))
            right = [row for row in product(range(3), repeat=many_wires) if are_right_hues(words, row)]
            self.assertIs(hues(Program(words)) is None, not right)
            for row in product(range(-1, 4), repeat=many_wires) if many_wires <= 3 else right:
                self.assertIs(is_hues(Program(words), row), row in right)

    def test_webs_without_hues(self):
        for web in WITHOUT_HUES + [petersen(), flower(), crossed(petersen(), petersen())]:
            for root in range(len(web)):
                program = Program(program_with_web(web, root)[0])
                self.assertIsNone(hues(program))
                self.assertIsNone(closed_part(program))
        for web in WITHOUT_HUES:
            self.assertEqual(len(web), 36)

    def test_webs_with_hues(self):
        for web in WEBS:
            told = {self.looked_at(program_with_web(web, root)[0]) is None for root in range(0, len(web), 2)}
            self.assertEqual(len(told), 1)
        for many_knots in range(2, 13):
            for straight in (True, False):
                self.assertIsNotNone(self.looked_at(program_with_web(circle(many_knots, straight), 1)[0]))

    def test_greater_programs(self):
        drawn = draws(9)
        for _ in range(60):
            words = program_at(12, next(drawn) ** 4 % many(12, 0)).words
            told = self.looked_at(words)
            if closed_part(Program(words)) is not None:
                self.assertIsNone(told)
        for _ in range(60):
            program = program_at(9, next(drawn) ** 3 % many(9, 0))
            self.assertIs(hues(program) is None, ones(program, 4) is None)

    def test_no_hues(self):
        for words in (("/f", "/x", "@", "f", "x"), program_with_web(circle(4, True), 0)[0]):
            program = Program(words)
            told = hues(program)
            self.assertIs(is_hues(program, tuple(2 - hue for hue in told)), True)
            wrong = [told[1:], told + (0,), list(told), told[:-1] + ((told[-1] + 1) % 3,), told[:-1] + (3,), told[:-1] + (-1,),
                     tuple(hue + 1 for hue in told), (0,) * len(told), dict(enumerate(told)), {0: told}, (told,)]
            for at, hue in enumerate(told):
                if hue < 2:
                    wrong.append(told[:at] + (bool(hue),) + told[at + 1:])
            wrong += [told[:-1] + (thing,) for thing in things() if not isinstance(thing, int)]
            for thing in wrong + things():
                with self.subTest(thing=repr(thing)[:60]):
                    self.assertIs(is_hues(program, thing), False)

    def test_without_wires(self):
        for thing in things() + [[()], ((),)]:
            self.assertIs(is_hues(Program(SELF), thing), thing == () and type(thing) is tuple)

    def test_a_wire_to_itself(self):
        program = Program(("@", "/x", "x", "/y", "y"))
        for row in product(range(3), repeat=3):
            self.assertIs(is_hues(program, row), False)


class OneWebTest(unittest.TestCase):

    def test_what_programs_with_one_web_share(self):
        for web in WEBS:
            rows = [Program(program_with_web(web, root)[0]) for root in range(0, len(web), 5)]
            self.assertEqual({len(wires(program)) for program in rows}, {len(web)})
            for told in (camps, hues, closed_part):
                self.assertEqual(len({told(program) is None for program in rows}), 1)
            if len(web) <= 27:
                self.assertEqual(len({polynomial(program) for program in rows}), 1)


if __name__ == "__main__":
    unittest.main()
