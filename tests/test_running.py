"""Running programs: run, as A3 and F1 to F3 tell of it."""

import random
import unittest

from examples import wrong_examples
from heldapart.errors import HeldError, NoFunction
from heldapart.programs import statement_at
from heldapart.programtexts import read_program
from heldapart.running import run
from heldapart.stores import heap_error
from making import any_program
from shapes import same_twice

EXAMPLES = r"""
    >>> from heldapart.programtexts import read_program
    >>> from heldapart.running import run
    >>> turn = read_program("fun turn(p) var a, b head list(p, nil) foot list(result, nil) { a = p; while a != nil { b = [a]; [a] = result; result = a; a = b; } }")
    >>> run(turn, "turn", (1,), ((1, 2), (2, 5), (5, 0)), (), 100), run(turn, "turn", (0,), ((7, 7),), (), 2)
    (('done', 5, ((1, 0), (2, 1), (5, 2)), 17), ('done', 0, ((7, 7),), 2))
    >>> run(turn, "turn", (1,), ((1, 2), (2, 5), (5, 0)), (), 16), run(turn, "turn", (3,), ((7, 7),), (), 3), run(turn, "turn", (3,), ((7, 7),), (), 2)
    (('long',), ('fault', 'turn', (1, 0, 0), ((7, 7),), 3), ('long',))
    >>> make = read_program("fun make() var a head empty foot empty { result = new(nil); a = new(result); result = a; } fun use(q) var c head empty foot empty { if any { c = make(); [c] = q; } free(q); }")
    >>> run(make, "make", (), ((1, 9),), (1,), 9), run(make, "make", (), ((1, 9),), (), 9)
    (('done', 2, ((1, 9), (2, 3), (3, 0)), 3), ('done', 3, ((1, 9), (2, 0), (3, 2)), 3))
    >>> run(make, "use", (4,), ((4, 0),), (), 9), run(make, "use", (4,), ((4, 0),), (7, 0, 10 ** 20), 9), run(make, "use", (4,), (), (), 9)
    (('done', 0, (), 2), ('done', 0, ((1, 0), (100000000000000000003, 4)), 7), ('fault', 'use', (1,), (), 2))
    >>> run(make, "turn", (), (), (), 9)
    raises NoFunction("turn")
"""

BIG = 10 ** 399


class Stop(Exception):
    """A run that is at its end: what run has to return."""


class PlainRun:
    """A run by the plain words of F1, statements standing in one another as they do in the program."""

    def __init__(self, program, heap, choices, limit):
        self.functions = {function[0]: function for function in program}
        self.cells = dict(heap)
        self.choices = list(choices)
        self.limit = limit
        self.steps = 0

    def heap(self):
        return tuple(sorted(self.cells.items()))

    def step(self):
        if self.steps == self.limit:
            raise Stop(("long",))
        self.steps += 1

    def choice(self):
        return self.choices.pop(0) if self.choices else 0

    def outcome(self, name, args):
        try:
            return ("done", self.call(name, args), self.heap(), self.steps)
        except Stop as stop:
            return stop.args[0]

    def call(self, name, args):
        _, params, _, wheres, _, _, body = self.functions[name]
        values = {"nil": 0, "result": 0, **{where: 0 for where in wheres}, **dict(zip(params, args))}
        self.row(name, body, (), values)
        return values["result"]

    def row(self, name, statements, above, values):
        for place, statement in enumerate(statements):
            self.do(name, statement, above + (place,), values)

    def test(self, test, values):
        self.step()
        if test == ("any",):
            return bool(self.choice() & 1)
        return (values[test[1]] == values[test[2]]) == (test[0] == "is")

    def do(self, name, statement, way, values):
        word = statement[0]
        if word == "if":
            side = 0 if self.test(statement[1], values) else 1
            self.row(name, statement[2 + side], way + (side,), values)
        elif word == "while":
            while self.test(statement[1], values):
                self.row(name, statement[3], way + (0,), values)
        else:
            self.step()
            if not self.plain(statement, values):
                raise Stop(("fault", name, way, self.heap(), self.steps))

    def plain(self, statement, values):
        word = statement[0]
        if word == "call":
            values[statement[1]] = self.call(statement[2], [values[term] for term in statement[3]])
        elif word == "set":
            values[statement[1]] = values[statement[2]]
        elif word == "new":
            value, choice, at = values[statement[2]], self.choice(), 0
            while True:
                at += 1
                if at not in self.cells:
                    if choice == 0:
                        break
                    choice -= 1
            self.cells[at] = value
            values[statement[1]] = at
        else:
            at = values[statement[2] if word == "get" else statement[1]]
            if at not in self.cells:
                return False
            if word == "get":
                values[statement[1]] = self.cells[at]
            elif word == "put":
                self.cells[at] = values[statement[2]]
            else:
                del self.cells[at]
        return True


def one(body, head="fun f(p) var a, b head empty foot empty "):
    return read_program(head + "{ " + body + " }")


class Case(unittest.TestCase):
    # The tests of the machine with rows hand in their own one.
    machine = staticmethod(run)

    def told(self, program, args, heap, choices, limit, meant, name="f"):
        got = self.machine(program, name, args, heap, choices, limit)
        self.assertEqual(got, meant)
        self.assertEqual(repr(got), repr(meant))


class Examples(unittest.TestCase):
    def test_examples_as_they_stand_in_the_document(self):
        self.assertEqual(wrong_examples(EXAMPLES), (9, []))


class Statements(Case):
    def test_no_statements(self):
        self.told(one(""), (4,), ((4, 5),), (3,), 0, ("done", 0, ((4, 5),), 0))
        self.told(one("", "fun f() head empty foot empty "), (), (), (), 0, ("done", 0, (), 0))

    def test_names_begin_as_told(self):
        for name, value in (("p", 7), ("a", 0), ("b", 0), ("result", 0), ("nil", 0)):
            self.told(one(f"result = {name};"), (7,), (), (), 1, ("done", value, (), 1))
        two = one("result = q;", "fun f(p, q) with s var a head empty foot empty ")
        self.told(two, (3, BIG), (), (), 5, ("done", BIG, (), 1))
        self.told(two, (3, 0), (), (), 5, ("done", 0, (), 1))

    def test_set(self):
        self.told(one("a = p; b = a; a = nil; result = b; b = result;"), (9,), ((9, 9),), (), 5, ("done", 9, ((9, 9),), 5))
        self.told(one("result = p; result = nil;"), (9,), (), (), 5, ("done", 0, (), 2))
        self.told(one("a = p; a = a; result = a;"), (2,), (), (), 5, ("done", 2, (), 3))

    def test_get(self):
        heap = ((3, 8), (8, 0), (BIG, 3))
        self.told(one("a = [p]; result = a;"), (3,), heap, (), 9, ("done", 8, heap, 2))
        self.told(one("a = [p]; a = [a]; result = a;"), (3,), heap, (), 9, ("done", 0, heap, 3))
        self.told(one("result = p; result = [result]; result = [result];"), (BIG,), heap, (), 9, ("done", 8, heap, 3))

    def test_put(self):
        heap = ((3, 8), (8, 0))
        self.told(one("[p] = p;"), (8,), heap, (), 9, ("done", 0, ((3, 8), (8, 8)), 1))
        self.told(one("[p] = nil; a = [p]; result = a;"), (3,), heap, (), 9, ("done", 0, ((3, 0), (8, 0)), 3))
        self.told(one("a = [p]; [a] = p; result = a;"), (3,), heap, (), 9, ("done", 8, ((3, 8), (8, 3)), 3))

    def test_free(self):
        heap = ((3, 8), (5, 5), (8, 0))
        self.told(one("free(p);"), (5,), heap, (), 9, ("done", 0, ((3, 8), (8, 0)), 1))
        self.told(one("a = [p]; free(a); free(p);"), (3,), heap, (), 9, ("done", 0, ((5, 5),), 3))
        self.told(one("free(p); a = new(nil); result = a;"), (5,), heap, (0,), 9,
                  ("done", 1, ((1, 0), (3, 8), (8, 0)), 3))
        self.told(one("free(p); a = new(p); result = a;"), (5,), heap, (3,), 9,
                  ("done", 5, ((3, 8), (5, 5), (8, 0)), 3))

    def test_new(self):
        for heap, choice, address in (
            ((), 0, 1), ((), 1, 2), ((), 10 ** 30, 10 ** 30 + 1), ((), BIG, BIG + 1), (((1, 0),), 0, 2), (((1, 0),), 5, 7),
            (((2, 0),), 0, 1), (((2, 0),), 1, 3), (((1, 0), (2, 0), (3, 0)), 0, 4), (((1, 0), (3, 0), (5, 0)), 0, 2),
            (((1, 0), (3, 0), (5, 0)), 1, 4), (((1, 0), (3, 0), (5, 0)), 2, 6), (((1, 0), (3, 0), (5, 0)), 3, 7),
            (((4, 0), (5, 0)), 2, 3), (((4, 0), (5, 0)), 3, 6), (((BIG, 0),), BIG - 2, BIG - 1),
            (((BIG, 0),), BIG - 1, BIG + 1), (((BIG, 0), (BIG + 1, 0)), BIG - 1, BIG + 2), (((2, 0), (4, 0)), 10, 13),
        ):
            meant = tuple(sorted(heap + ((address, 77),)))
            self.told(one("result = new(p);"), (77,), heap, (choice,), 1, ("done", address, meant, 1))
        self.told(one("result = new(nil);"), (77,), ((1, 1),), (), 1, ("done", 2, ((1, 1), (2, 0)), 1))

    def test_values_are_taken_ahead_of_all_that_changes(self):
        self.told(one("a = p; a = new(a); result = a;"), (9,), (), (), 9, ("done", 1, ((1, 9),), 3))
        self.told(one("a = p; a = [a]; result = a;"), (9,), ((9, 4),), (), 9, ("done", 4, ((9, 4),), 3))
        own = "fun f(p) var a head empty foot empty { a = p; a = g(a, a); result = a; } " \
              "fun g(p, q) head empty foot empty { if p = q { result = [p]; } }"
        self.told(read_program(own), (9,), ((9, 4),), (), 9, ("done", 4, ((9, 4),), 5))

    def test_ifs(self):
        program = one("if p = nil { result = new(nil); } else { result = p; free(p); } b = p;")
        self.told(program, (0,), (), (), 9, ("done", 1, ((1, 0),), 3))
        self.told(program, (4,), ((4, 4),), (), 9, ("done", 4, (), 4))
        program = one("if p != nil { result = p; }")
        self.told(program, (0,), (), (), 9, ("done", 0, (), 1))
        self.told(program, (4,), (), (), 9, ("done", 4, (), 2))
        self.told(one("if p = a { } else { if a != b { } else { result = p; } }"), (4,), (), (), 9, ("done", 4, (), 3))
        self.told(one("if nil = nil { } if nil != nil { free(nil); }"), (4,), (), (), 9, ("done", 0, (), 2))

    def test_whiles(self):
        program = one("a = p; while a != nil { result = a; a = [a]; } b = result;")
        self.told(program, (1,), ((1, 2), (2, 3), (3, 0)), (), 99, ("done", 3, ((1, 2), (2, 3), (3, 0)), 12))
        self.told(program, (0,), (), (), 99, ("done", 0, (), 3))
        self.told(one("while any { } result = p;"), (5,), (), (1, 3, 5, 8, 1), 99, ("done", 5, (), 5))
        self.told(one("while any { while any { result = p; } }"), (5,), (), (1, 1, 0, 1), 99, ("done", 5, (), 7))

    def test_keeps_spares_heads_and_feet_are_not_looked_at(self):
        program = read_program("fun f(p) with s var a head list(p, s) * p != nil foot result = nil * cell(s, s) "
                               "{ while any keep a != a { a = f(p; s); } result = p; }")
        self.told(program, (0,), (), (), 9, ("done", 0, (), 2))
        self.told(program, (6,), ((8, 8),), (1, 0, 0), 9, ("done", 6, ((8, 8),), 6))

    def test_any(self):
        program = one("if any { result = new(nil); } else { result = p; }")
        for choices, odd in (((), False), ((0,), False), ((1,), True), ((2,), False), ((3,), True), ((10 ** 50,), False),
                             ((10 ** 50 + 1,), True), ((BIG,), False), ((BIG + 1,), True)):
            meant = ("done", 1, ((1, 0),), 2) if odd else ("done", 6, (), 2)
            self.told(program, (6,), (), choices, 9, meant)

    def test_choices_are_taken_in_order_by_tests_and_news(self):
        program = one("if any { a = new(nil); } b = new(a); if any { result = b; }")
        self.told(program, (6,), (), (1, 4, 2, 1), 9, ("done", 3, ((3, 5), (5, 0)), 5))
        self.told(program, (6,), (), (0, 4, 1), 9, ("done", 5, ((5, 0),), 4))
        self.told(program, (6,), (), (1, 2), 9, ("done", 0, ((1, 3), (3, 0)), 4))
        self.told(program, (6,), (), (1, 2, 1, 1, 7, 7, 7), 9, ("done", 2, ((2, 3), (3, 0)), 5))
        self.told(one("if p = nil { } a = new(nil); free(a); while a = nil { } result = new(p);"), (3,), (), (6, 2), 9,
                  ("done", 3, ((3, 3),), 5))


class Calls(Case):
    def test_several_params(self):
        program = read_program("fun f(p, q) head empty foot empty { result = g(q, nil, p); } "
                               "fun g(a, b, c) var d head empty foot empty { d = a; if b = nil { d = c; } result = d; }")
        self.told(program, (3, 4), (), (), 9, ("done", 3, (), 5))
        self.told(program, (3, 4, 5), (), (), 9, ("done", 3, (), 3), "g")
        self.told(program, (3, 0, 5), (), (), 9, ("done", 5, (), 4), "g")
        self.told(program, (3, 4), (), (), 4, ("long",))

    def test_wheres_and_result_are_nil_at_each_begin(self):
        program = read_program("fun f(p) var a head empty foot empty { a = p; result = p; a = g(p); a = g(p); "
                               "if a = nil { result = new(nil); } } "
                               "fun g(p) var a head empty foot empty { if a = nil { if result = nil { a = p; } } }")
        self.told(program, (9,), (), (), 99, ("done", 1, ((1, 0),), 12))

    def test_own_names_are_untouched_by_callees(self):
        program = read_program("fun f(p) var a, b head empty foot empty { a = p; b = g(nil); result = a; } "
                               "fun g(p) var a, b head empty foot empty { a = new(nil); b = a; result = a; }")
        self.told(program, (9,), (), (), 99, ("done", 9, ((1, 0),), 6))

    def test_calls_of_itself(self):
        program = one("if p != nil { a = [p]; result = f(a); [p] = result; result = p; }")
        heap = ((1, 2), (2, 3), (3, 0))
        self.told(program, (1,), heap, (), 99, ("done", 1, heap, 16))
        self.told(program, (1,), heap, (), 16, ("done", 1, heap, 16))
        self.told(program, (1,), heap, (), 15, ("long",))

    def test_calls_of_one_another(self):
        program = read_program("fun f(p) var a head empty foot empty { if p != nil { a = [p]; result = g(a; p); } } "
                               "fun g(p) with s head empty foot empty { result = f(p); free(p); }")
        self.told(program, (1,), ((1, 2), (2, 0)), (), 99, ("fault", "g", (1,), ((1, 2), (2, 0)), 10))
        self.told(program, (2,), ((2, 0),), (), 99, ("fault", "g", (1,), ((2, 0),), 6))

    def test_a_callee_faults(self):
        program = read_program("fun f(p) head empty foot empty { result = g(p); free(p); } "
                               "fun g(p) var a head empty foot empty { if any { a = [p]; while any { a = [a]; } } }")
        self.told(program, (5,), ((5, 0),), (1, 1), 99, ("fault", "g", (0, 0, 1, 0, 0), ((5, 0),), 5))
        self.told(program, (5,), ((5, 0),), (1, 0), 99, ("done", 0, (), 5))
        self.told(program, (5,), ((6, 0),), (1, 0), 99, ("fault", "g", (0, 0, 0), ((6, 0),), 3))
        self.told(program, (5,), ((6, 0),), (0,), 99, ("fault", "f", (1,), ((6, 0),), 3))

    def test_result_of_a_call_goes_to_its_goal(self):
        program = read_program("fun f(p) var a head empty foot empty { a = g(p); result = a; a = g(a); } "
                               "fun g(p) head empty foot empty { result = [p]; }")
        self.told(program, (1,), ((1, 2), (2, 7)), (), 9, ("done", 2, ((1, 2), (2, 7)), 5))

    def test_thousands_of_calls_in_one_another(self):
        program = one("result = f(p);")
        self.told(program, (1,), (), (), 10 ** 4, ("long",))
        program = one("if any { result = f(p); } else { result = p; } a = result;")
        choices = (1,) * 3300
        self.told(program, (8,), (), choices, 10 ** 4, ("done", 8, (), 3300 * 3 + 3))
        self.told(program, (8,), (), choices, 3300 * 3 + 3, ("done", 8, (), 3300 * 3 + 3))
        self.told(program, (8,), (), choices, 3300 * 3 + 2, ("long",))
        program = one("if p = nil { free(p); } a = [p]; result = f(a);")
        many = 3000
        heap = tuple((at, at + 1) for at in range(1, many)) + ((many, 0),)
        self.told(program, (1,), heap, (), 10 ** 4, ("fault", "f", (0, 0, 0), heap, 3 * many + 2))


class Faults(Case):
    def test_each_kind_of_fault(self):
        for text, at in (("a = [p];", "p"), ("[p] = nil;", "p"), ("[p] = p;", "p"), ("free(p);", "p")):
            for heap in ((), ((8, 8),), ((1, 2), (4, 0))):
                for value in (0, 3, 5, BIG):
                    self.told(one(text), (value,), heap, (), 9, ("fault", "f", (0,), heap, 1))
                    self.told(one("b = p; " + text + " b = nil;"), (value,), heap, (), 9, ("fault", "f", (1,), heap, 2))
        for text in ("a = [nil];", "[nil] = p;", "free(nil);", "a = [b];", "[result] = p;", "free(a);"):
            self.told(one(text), (8,), ((8, 8),), (), 9, ("fault", "f", (0,), ((8, 8),), 1))

    def test_addresses_that_were_freed(self):
        for text in ("a = [p];", "[p] = p;", "free(p);"):
            self.told(one("free(p); if any { } " + text), (8,), ((2, 1), (8, 8)), (), 9,
                      ("fault", "f", (2,), ((2, 1),), 3))
            self.told(one("free(p); a = new(nil); " + text), (1,), ((1, 1),), (1,), 9,
                      ("fault", "f", (2,), ((2, 0),), 3))

    def test_a_fault_changes_nothing(self):
        program = one("a = p; a = [b]; result = a;")
        self.told(program, (3,), ((3, 3),), (), 9, ("fault", "f", (1,), ((3, 3),), 2))

    def test_ways_of_faults(self):
        program = one("if any { } else { b = p; while p != nil { if b = p { b = nil; } else { free(b); } } }")
        self.told(program, (3,), ((3, 3),), (), 99, ("fault", "f", (0, 1, 1, 0, 0, 1, 0), ((3, 3),), 8))
        self.assertEqual(statement_at(program[0], (0, 1, 1, 0, 0, 1, 0)), ("free", "b"))

    def test_no_function(self):
        program = one("result = f(p);")
        for name in ("g", "ff", "p", "abcdefgh"):
            for args in ((), (1,), (1, 2, 3)):
                with self.assertRaises(NoFunction) as caught:
                    self.machine(program, name, args, (), (), 0)
                self.assertEqual((type(caught.exception), caught.exception.name), (NoFunction, name))
                self.assertIsInstance(caught.exception, HeldError)


class Limits(Case):
    def test_limits_around_what_is_needed(self):
        for text, steps in (("", 0), ("a = p;", 1), ("a = p; b = a;", 2), ("if any { } b = p;", 2), ("while any { }", 1),
                            ("a = new(nil); free(a);", 2), ("if p = p { if a = b { a = p; } }", 3)):
            for limit in range(steps):
                self.assertEqual(self.machine(one(text), "f", (1,), (), (), limit), ("long",), (text, limit))
            for limit in (steps, steps + 1, steps + 50, 10 ** 4):
                self.assertEqual(self.machine(one(text), "f", (1,), (), (), limit)[0::3], ("done", steps), (text, limit))

    def test_a_fault_at_the_limit(self):
        program = one("a = p; free(a); if any { }")
        self.told(program, (1,), (), (), 1, ("long",))
        self.told(program, (1,), (), (), 2, ("fault", "f", (1,), (), 2))
        self.told(program, (1,), (), (), 0, ("long",))
        self.told(program, (1,), ((1, 1),), (), 2, ("long",))

    def test_loops_that_do_not_end(self):
        for text in ("while p = p { }", "while any { a = p; }", "while nil = nil { if any { } }", "result = f(p);",
                     "while p = p { a = new(a); }", "while a = a { a = new(nil); free(a); }"):
            for limit in (0, 1, 2, 999, 10 ** 4):
                self.told(one(text), (1,), (), (1,) * 20000, limit, ("long",))

    def test_great_heaps(self):
        many = 3000
        heap = tuple((BIG + at, BIG + at + 1) for at in range(many - 1)) + ((BIG + many - 1, 0),)
        turned = tuple(sorted([(BIG, 0)] + [(BIG + at, BIG + at - 1) for at in range(1, many)]))
        program = read_program("fun f(p) var a, b head empty foot empty "
                               "{ a = p; while a != nil { b = [a]; [a] = result; result = a; a = b; } }")
        self.told(program, (BIG,), heap[:1900] + ((BIG + 1900, 0),), (), 10 ** 4,
                  ("done", BIG + 1900, turned[:1901], 2 + 5 * 1901))
        program = one("a = p; while a != nil { b = [a]; free(a); a = b; }")
        self.told(program, (BIG,), heap[:2400] + ((BIG + 2400, 0),), (), 10 ** 4, ("done", 0, (), 2 + 4 * 2401))
        program = one("while a != p { a = new(b); b = a; }")
        held = tuple((at, at) for at in range(1, 6000, 2))
        got = self.machine(program, "f", (6000,), held, (), 10 ** 4)
        self.assertEqual((got[0], got[1], got[3]), ("done", 0, 9001))
        self.assertEqual([address for address, _ in got[2]], list(range(1, 6001)))
        self.assertEqual(dict(got[2])[4000], 3998)

    def test_greater_limits_and_further_choices(self):
        source = random.Random(55)
        met = {"done": 0, "fault": 0, "long": 0}
        for _ in range(1500):
            program = any_program(source, 3)
            name, params = program[0][0], program[0][1]
            args = tuple(source.randint(0, 4) for _ in params)
            heap = tuple((at, source.randint(0, 5)) for at in range(1, 6) if source.randint(0, 1))
            choices = tuple(source.randint(0, 3) for _ in range(60))
            got = self.machine(program, name, args, heap, choices, 40)
            met[got[0]] += 1
            if got[0] == "long":
                continue
            self.assertIsNone(heap_error(got[-2]))
            self.assertEqual(self.machine(program, name, args, heap, choices + (1, 2, 3), 10 ** 4), got)
            self.assertEqual(self.machine(program, name, args, heap, choices, got[-1]), got)
            if got[-1]:
                self.assertEqual(self.machine(program, name, args, heap, choices, got[-1] - 1), ("long",))
        self.assertGreater(min(met.values()), 100)

    def test_just_what_the_words_tell(self):
        source = random.Random(57)
        for _ in range(2500):
            program = any_program(source, 3)
            function = source.choice(program)
            args = tuple(source.randint(0, 5) for _ in function[1])
            heap = tuple((at, source.randint(0, 6)) for at in range(1, 7) if source.randint(0, 2))
            choices = tuple(source.randint(0, 4) for _ in range(source.randint(0, 30)))
            limit = source.choice((0, 3, 10, 30, 60))
            meant = PlainRun(program, heap, choices, limit).outcome(function[0], args)
            self.told(program, args, heap, choices, limit, meant, function[0])


class ByName(Case):
    def test_by_place_and_by_name_twice(self):
        program = one("a = new(p); while any { a = new(a); } result = a; free(p);")
        for heap, choices, limit in ((((4, 4),), (0, 1, 0, 0), 99), ((), (), 99), (((4, 4),), (1,) * 9, 5)):
            named = {"program": program, "name": "f", "args": (4,), "heap": heap, "choices": choices, "limit": limit}
            same_twice(self, self.machine, named)
        for _ in (0, 1):
            with self.assertRaises(NoFunction):
                self.machine(limit=5, choices=(), heap=(), args=(), name="g", program=program)


if __name__ == "__main__":
    unittest.main()
