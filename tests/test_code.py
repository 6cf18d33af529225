"""Programs as rows: code_of, row_ways and run_code, as A3 and G1 to G4 tell of them."""

import random
import unittest

import test_running
from examples import wrong_examples
from heldapart.code import code_of, row_ways, run_code
from heldapart.errors import HeldError, NoFunction
from heldapart.programs import program_error, statement_at, ways_of
from heldapart.programtexts import read_function, read_program
from heldapart.running import run
from making import EMPTY, any_program, function, nested
from shapes import same_twice

EXAMPLES = r"""
    >>> from heldapart.code import code_of, row_ways, run_code
    >>> from heldapart.programtexts import read_program
    >>> turn = read_program("fun turn(p) var a, b head list(p, nil) foot list(result, nil) { a = p; while a != nil { b = [a]; [a] = result; result = a; a = b; } }")
    >>> code_of(turn[0])
    (('set', 'a', 'p'), ('unless', ('isnt', 'a', 'nil'), 7), ('get', 'b', 'a'), ('put', 'a', 'result'), ('set', 'result', 'a'), ('set', 'a', 'b'), ('jump', 1), ('back',))
    >>> row_ways(turn[0])
    ((0,), (1,), (1, 0, 0), (1, 0, 1), (1, 0, 2), (1, 0, 3), (1,), ())
    >>> pick = read_program("fun pick(p, q) head empty foot empty { if any { result = p; } else { result = q; result = pick(p, q); } if p = q { } }")
    >>> code_of(pick[0])
    (('unless', ('any',), 3), ('set', 'result', 'p'), ('jump', 5), ('set', 'result', 'q'), ('call', 'result', 'pick', ('p', 'q')), ('unless', ('is', 'p', 'q'), 6), ('back',))
    >>> row_ways(pick[0])
    ((0,), (0, 0, 0), (0,), (0, 1, 0), (0, 1, 1), (1,), ())
    >>> run_code(turn, "turn", (1,), ((1, 2), (2, 5), (5, 0)), (), 17), run_code(turn, "turn", (3,), ((7, 7),), (), 3)
    (('done', 5, ((1, 0), (2, 1), (5, 2)), 17), ('fault', 'turn', (1, 0, 0), ((7, 7),), 3))
    >>> run_code(pick, "pick", (4, 5), (), (0, 2, 9), 99), run_code(pick, "pick", (4, 4), (), (), 99)
    (('done', 4, (), 11), ('long',))
"""

KEEP = EMPTY + EMPTY
SET, PUT = ("set", "w", "p"), ("put", "p", "result")


def plain_code(statements, above=()):
    """The rows of statements by the words of G1, with marks in the place of places: no row is a mark."""
    rows = []
    for place, statement in enumerate(statements):
        way = above + (place,)
        if statement[0] == "call":
            rows.append((way, statement[:-1]))
        elif statement[0] == "if":
            first, second = plain_code(statement[2], way + (0,)), plain_code(statement[3], way + (1,))
            rows.append((way, ("unless", statement[1], ("second", way))))
            rows += first
            if second:
                rows += [(way, ("jump", ("behind", way))), ("mark", ("second", way))] + second
            else:
                rows.append(("mark", ("second", way)))
            rows.append(("mark", ("behind", way)))
        elif statement[0] == "while":
            rows += [("mark", ("begin", way)), (way, ("unless", statement[1], ("behind", way)))]
            rows += plain_code(statement[3], way + (0,))
            rows += [(way, ("jump", ("begin", way))), ("mark", ("behind", way))]
        else:
            rows.append((way, statement))
    return rows


def with_places(rows):
    """Rows without marks, these being the places of the rows behind them."""
    places, kept = {}, []
    for way, row in rows:
        if way == "mark":
            places[row] = len(kept)
        else:
            kept.append((way, row))
    return tuple((way, row[:-1] + (places[row[-1]],) if row[0] in ("unless", "jump") else row) for way, row in kept)


class Examples(unittest.TestCase):
    def test_examples_as_they_stand_in_the_document(self):
        self.assertEqual(wrong_examples(EXAMPLES), (10, []))


class Rows(unittest.TestCase):
    def code(self, *body, **others):
        """The code of a function with this body, looked at as G1 and G2 tell of it."""
        one = function(body=body, **others)
        self.assertIsNone(program_error((one,)))
        self.looked_at(one)
        return code_of(one)

    def looked_at(self, one):
        rows, ways = code_of(one), row_ways(one)
        self.assertIs(type(rows), tuple)
        self.assertIs(type(ways), tuple)
        self.assertEqual(len(rows), len(ways))
        self.assertEqual((rows[-1], ways[-1]), (("back",), ()))
        self.assertEqual(tuple(zip(ways, rows)), with_places(plain_code(one[6])) + (((), ("back",)),))
        for at, (row, way) in enumerate(zip(rows, ways)):
            if row[0] in ("unless", "jump"):
                self.assertIs(type(row[-1]), int)
                self.assertTrue(0 <= row[-1] < len(rows))
            if row[0] == "jump":
                told = statement_at(one, way)
                self.assertEqual(row[1] <= at, told[0] == "while")
                if told[0] == "while":
                    self.assertEqual((rows[row[1]][0], ways[row[1]]), ("unless", way))
        met = sorted(set(ways) - {()})
        self.assertEqual(tuple(met), ways_of(one))

    def test_no_statements(self):
        self.assertEqual(self.code(), (("back",),))
        self.assertEqual(row_ways(function()), ((),))

    def test_plain_statements_are_their_own_rows(self):
        body = (SET, ("new", "result", "nil"), ("get", "w", "w"), PUT, ("free", "nil"))
        self.assertEqual(self.code(*body), body + (("back",),))
        self.assertEqual(row_ways(function(body=body)), ((0,), (1,), (2,), (3,), (4,), ()))

    def test_forty_statements(self):
        body = (SET, PUT) * 20
        self.assertEqual(self.code(*body), body + (("back",),))
        self.assertEqual(len(self.code(*[("while", ("any",), None, (SET,))] * 20)), 61)
        self.assertEqual(len(self.code(*[("if", ("any",), (), (SET,))] * 20)), 61)

    def test_calls_have_no_spareargs_in_their_rows(self):
        one = ("call", "w", "f", ("p",), ("s",))
        self.assertEqual(self.code(one), (("call", "w", "f", ("p",)), ("back",)))
        none = ("call", "result", "f", (), ())
        self.assertEqual(self.code(none, params=(), spares=(), wheres=()), (("call", "result", "f", ()), ("back",)))
        two = ("call", "w", "f", ("nil", "w"), ("nil", "p"))
        self.assertEqual(self.code(two, params=("p", "q"), spares=("s", "t")),
                         (("call", "w", "f", ("nil", "w")), ("back",)))

    def test_ifs(self):
        test = ("isnt", "p", "nil")
        self.assertEqual(self.code(("if", test, (), ())), (("unless", test, 1), ("back",)))
        self.assertEqual(self.code(("if", test, (SET,), ())), (("unless", test, 2), SET, ("back",)))
        self.assertEqual(self.code(("if", test, (), (SET,))), (("unless", test, 2), ("jump", 3), SET, ("back",)))
        self.assertEqual(self.code(PUT, ("if", test, (SET, SET), (PUT,)), PUT),
                         (PUT, ("unless", test, 5), SET, SET, ("jump", 6), PUT, PUT, ("back",)))

    def test_whiles(self):
        for keep in (None, EMPTY, KEEP):
            self.assertEqual(self.code(("while", ("any",), keep, ())),
                             (("unless", ("any",), 2), ("jump", 0), ("back",)))
            self.assertEqual(self.code(PUT, ("while", ("any",), keep, (SET,)), PUT),
                             (PUT, ("unless", ("any",), 4), SET, ("jump", 1), PUT, ("back",)))

    def test_in_one_another(self):
        for word in ("if", "while"):
            for deep in (1, 2, 3, 4):
                rows = self.code(nested(deep, SET, word))
                self.assertEqual(len(rows), 2 * deep + 2)
        inner = ("while", ("any",), None, (("if", ("is", "p", "w"), (), (SET,)),))
        self.assertEqual(self.code(("if", ("any",), (inner,), (inner,))), (
            ("unless", ("any",), 7), ("unless", ("any",), 6), ("unless", ("is", "p", "w"), 4), ("jump", 5), SET,
            ("jump", 1), ("jump", 12), ("unless", ("any",), 12), ("unless", ("is", "p", "w"), 10), ("jump", 11), SET,
            ("jump", 7), ("back",)))
        self.code(nested(2, nested(2, nested(0, PUT), "while")), nested(2, nested(2, PUT, "if"), "while"))

    def test_random_programs(self):
        source = random.Random(71)
        for _ in range(400):
            for one in any_program(source):
                self.looked_at(one)


class CodeStatements(test_running.Statements):
    machine = staticmethod(run_code)


class CodeCalls(test_running.Calls):
    machine = staticmethod(run_code)


class CodeFaults(test_running.Faults):
    machine = staticmethod(run_code)


class CodeLimits(test_running.Limits):
    machine = staticmethod(run_code)


class CodeByName(test_running.ByName):
    machine = staticmethod(run_code)


class Machine(unittest.TestCase):
    def both(self, *given):
        got = run_code(*given)
        self.assertEqual(repr(got), repr(run(*given)))
        return got

    def test_the_same_as_run(self):
        source = random.Random(72)
        met = {"done": 0, "fault": 0, "long": 0}
        for _ in range(3000):
            program = any_program(source)
            one = source.choice(program)
            args = tuple(source.randint(0, 5) for _ in one[1])
            heap = tuple((at, source.randint(0, 6)) for at in range(1, 7) if source.randint(0, 2))
            choices = tuple(source.randint(0, 5) for _ in range(source.randint(0, 40)))
            got = self.both(program, one[0], args, heap, choices, source.choice((0, 1, 5, 30, 200)))
            met[got[0]] += 1
            if got[0] != "long":
                self.both(program, one[0], args, heap, choices, got[-1])
                self.both(program, one[0], args, heap, choices, max(0, got[-1] - 1))
        self.assertGreater(min(met.values()), 200)

    def test_calls_of_one_another(self):
        program = read_program("fun f(p) var a head empty foot empty { if any { a = g(p, nil); } result = a; } "
                               "fun g(p, q) head empty foot empty { while any { result = f(p); } result = p; }")
        for many in range(1, 40):
            for limit in (many, 3 * many, 999):
                self.both(program, "f", (8,), ((8, 8),), (1, 1, 0) * many, limit)
        self.assertEqual(self.both(program, "g", (8, 0), ((8, 8),), (1,) * 2800, 10 ** 4)[0], "done")
        program = read_program("fun f(p) head empty foot empty { result = g(p); } "
                               "fun g(p) head empty foot empty { result = f(p); }")
        self.assertEqual(self.both(program, "g", (8,), (), (), 10 ** 4), ("long",))

    def test_a_thousand_calls_in_one_another(self):
        program = read_program("fun f(p) var a head empty foot empty { if p != nil { a = [p]; a = f(a); result = p; } }")
        for many in (1000, 1700, 2400):
            heap = tuple((at, at + 1) for at in range(1, many)) + ((many, 0),)
            got = self.both(program, "f", (1,), heap, (), 10 ** 4)
            self.assertEqual(got, ("done", 1, heap, 4 * many + 1))
            self.assertEqual(self.both(program, "f", (1,), heap, (), 4 * many), ("long",))

    def test_cells_beside_stay_as_they_were(self):
        source = random.Random(73)
        met = 0
        for _ in range(1500):
            program = any_program(source, 3)
            one = source.choice(program)
            args = tuple(source.randint(0, 4) for _ in one[1])
            heap = tuple((at, source.randint(0, 4)) for at in range(1, 5) if source.randint(0, 2))
            beside = tuple((at, source.randint(0, 12)) for at in range(100, 105))
            got = self.both(program, one[0], args, heap + beside, tuple(source.randint(0, 3) for _ in range(9)), 60)
            if got[0] != "long":
                met += 1
                self.assertEqual(tuple(cell for cell in got[-2] if 100 <= cell[0] < 105), beside)
        self.assertGreater(met, 500)

    def test_no_function(self):
        program = read_program("fun f(p) head empty foot empty { result = f(p); }")
        for name in ("g", "ff", "abcdefgh", "p"):
            for args in ((), (1,), (1, 2)):
                with self.assertRaises(NoFunction) as caught:
                    run_code(program, name, args, (), (), 0)
                self.assertEqual((type(caught.exception), caught.exception.name), (NoFunction, name))
                self.assertIsInstance(caught.exception, HeldError)


class ByName(unittest.TestCase):
    def test_by_place_and_by_name_twice(self):
        one = read_function("fun f(p) with s head empty foot empty "
                            "{ if any { result = f(p; s); } else { } while p = nil keep empty { free(p); } }")
        self.assertEqual(len(same_twice(self, code_of, {"function": one})), 6)
        self.assertEqual(same_twice(self, row_ways, {"function": one}), ((0,), (0, 0, 0), (1,), (1, 0, 0), (1,), ()))


if __name__ == "__main__":
    unittest.main()
