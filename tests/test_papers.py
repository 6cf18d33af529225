"""Each end of stretches by cases is traced back to a stretch that comes to it, as J6 and H4 tell."""

import random
import unittest

from heldapart.checking import cuts, gone_through, verdict_of
from heldapart.errors import TooMany
from heldapart.papers import paper_of
from heldapart.programtexts import read_program
from heldapart.stretches import start_cases
from known import RIGHT, WRONG, changed, right, small_program
from plainly import PlainStretch, asks_from, begins_right

# Answers amid long arrows, lists through addresses given back, and long arrows that calls use and opened ones.
PARTED = [
    "fun f(p, q) with s var a, b head list(p, nil) * list(q, s) foot empty { a = g(p); if any { b = a; a = g(q); } "
    "if any { b = [a]; } if b != nil { free(b); } a = h(p; s); } "
    "fun g(p) head empty foot empty { } fun h(p) with s head list(p, nil) foot list(p, result) * list(result, s) { }",
    "fun f(p, q) var a, b head list(p, nil) foot p = q { a = g(p); b = g(q); if a = b { b = [p]; } a = h(q); } "
    "fun g(p) head empty foot empty { } fun h(p) head empty foot list(p, nil) | list(p, result) * cell(result, p) { }",
    "fun f(p) var a, b, c head list(p, nil) foot p = nil { a = g(p); b = g(p); c = g(p); a = h(a); b = [b]; c = h(c); } "
    "fun g(p) head empty foot empty { } fun h(p) head list(p, nil) foot list(p, nil) | list(result, nil) { }",
    "fun f(p) var a, b, c head p = nil foot empty { a = new(p); b = new(a); free(a); a = nil; c = new(b); a = new(c); "
    "b = g(a, c); a = nil; c = nil; } fun g(p, q) head cell(p, q) foot list(p, q) * result = p | cell(result, p) { }",
]


class Papers(unittest.TestCase):
    def all_ends(self, program, met, most=None):
        """Each end of stretches from each cut is traced back, and the stretch comes to it."""
        for one in program:
            for way in cuts(one):
                try:
                    stretches = gone_through(program, one, way, start_cases(one, way))
                except TooMany:
                    continue
                for end in list(stretches.ends)[:most]:
                    self.comes_to(program, one, stretches, end, met)

    def comes_to(self, program, one, stretches, end, met):
        name, way, store, heap, answers = paper_of(one[0], stretches, end)
        self.assertEqual((name, way), (one[0], stretches.way))
        self.assertTrue(begins_right(one, way, store, heap), (program, end))
        ask, left = asks_from(answers)
        got = PlainStretch(program, name, store, heap, ask).outcome(way)
        self.assertEqual((got, left), ((verdict_of(one, end), end[0]), []), (program, end))
        met[got[0]] = met.get(got[0], 0) + 1
        for answer in answers:
            met[answer[0]] = met.get(answer[0], 0) + 1

    def test_known_ones(self):
        met = {}
        for name in RIGHT:
            self.all_ends(right(name), met)
        self.assertNotIn("unkept", met)
        for row in WRONG:
            self.all_ends(changed(*row), met)
        self.assertGreater(min(met.values()), 20)

    def test_parted_and_used_arrows(self):
        met = {}
        for text in PARTED:
            self.all_ends(read_program(text), met)
        self.assertGreater(met["call"], 1000)

    def test_random_ones(self):
        source = random.Random(161)
        met = {}
        for _ in range(500):
            self.all_ends(small_program(source), met, 60)
        self.assertEqual(sorted(met), ["any", "call", "fault", "head", "kept", "lost", "new", "unkept"])
        self.assertGreater(min(met.values()), 200)


if __name__ == "__main__":
    unittest.main()
