"""Papers judged: goes_wrong and replay, as A3, J1, J2, J4, K1 and K2 tell of them."""

import random
import unittest

from examples import wrong_examples
from heldapart.cases import cases_of
from heldapart.checking import check, cuts
from heldapart.errors import BadText, HeldError, Open, TooMany, Unfit
from heldapart.judging import goes_wrong, replay
from heldapart.programs import names_of
from heldapart.programtexts import read_program
from known import RIGHT, WRONG, changed, right, small_program
from making import NO_TUPLES, any_program
from plainly import PlainStretch, drawn, plain_paper, whiles_of
from shapes import same_twice, stretched

EXAMPLES = r"""
    >>> from heldapart.checking import check
    >>> nothing, all_of_x = ((), ()), ((), (("list", "x", "nil"),))
    >>> two = ("two", ("x",), (), (), (all_of_x,), (nothing,), (("free", "x"),))
    >>> both = (((), (("list", "u", "nil"), ("list", "result", "nil"))),)
    >>> turn = ("turn", ("x",), (), ("t", "u"), (all_of_x,), (((), (("list", "result", "nil"),)),), (("set", "u", "x"), ("while", ("isnt", "u", "nil"), both, (("get", "t", "u"), ("put", "u", "result"), ("set", "result", "u"), ("set", "u", "t")))))
    >>> join = ("join", ("x", "y"), (), (), (((), (("list", "x", "nil"), ("list", "y", "nil"))),), (((), (("list", "result", "nil"),)),), (("call", "result", "turn", ("x",), ()),))
    >>> from heldapart.judging import goes_wrong, replay
    >>> goes_wrong((two,), check((two,))), goes_wrong((join, turn), check((join, turn)))
    (True, True)
    >>> at_nil, at_one = (("result", 0), ("x", 0)), (("result", 0), ("x", 1))
    >>> [goes_wrong((two,), value) for value in (("two", (), at_nil, (), ()), ("two", (), at_one, ((1, 2), (2, 0)), ()), ("two", (), at_one, ((1, 0),), ()), ("two", (), at_one, ((1, 2),), ()), ("two", (), at_nil, (), (("any", True),)), ["two", (), at_nil, (), ()], None)]
    [True, True, False, False, False, False, False]
    >>> replay((two,), ("two", (), at_nil, (), ()))
    ('fault', (0,), (((('result', 0), ('x', 0)), ()),))
    >>> replay((two,), ("two", (), at_one, ((1, 2), (2, 0)), ()))
    ('lost', (0,), (((('result', 0), ('x', 1)), ((1, 2), (2, 0))), ((('result', 0), ('x', 1)), ((2, 0),))))
    >>> here = ("join", (), (("result", 0), ("x", 0), ("y", 1)), ((1, 0),), (("call", 0, ()),))
    >>> goes_wrong((join, turn), here), replay((join, turn), here)[:2], goes_wrong((join, turn), here[:4] + ((("call", 7, ((7, 0),)),),)), goes_wrong((join, turn), here[:4] + ((("call", 1, ((1, 0),)),),)), goes_wrong((join, turn), here[:4] + ((("call", 5, ((7, 0),)),),))
    (True, ('unkept', ()), True, False, False)
    >>> replay((two,), ("two", (), at_one, ((1, 0),), ()))
    raises Unfit()
"""

BIG = 10 ** 399
ODD = NO_TUPLES + [(), ((),), [1], ("any",), ("new", 0), (("any", True),), BadText(), Open("f", (0,)), "f", "any", -1,
                   True, 1.5]


def store(**values):
    return tuple(sorted({"result": 0, **values}.items()))


def renamed(value, names):
    """The value with other addresses in the place of all."""
    if isinstance(value, tuple):
        return tuple(renamed(item, names) for item in value)
    return names.get(value, value) if type(value) is int else value


class Case(unittest.TestCase):
    def told(self, program, value):
        """goes_wrong and replay agree with the plain words; what replay tells, None if it is no paper."""
        meant = plain_paper(program, value)
        self.assertIs(goes_wrong(program, value), meant is not None, (program, value))
        if meant is None:
            with self.assertRaises(Unfit) as caught:
                replay(program, value)
            self.assertEqual((type(caught.exception), vars(caught.exception)), (Unfit, {}))
            self.assertIsInstance(caught.exception, HeldError)
        else:
            self.assertEqual(repr(replay(program, value)), repr(meant))
        return meant

    def paper(self, program, value, verdict, where, rows):
        got = self.told(program, value)
        self.assertIsNotNone(got, value)
        self.assertEqual((got[0], got[1], len(got[2])), (verdict, where, rows))

    def none(self, program, *values):
        for value in values:
            self.assertIsNone(self.told(program, value), value)


class Examples(unittest.TestCase):
    def test_examples_as_they_stand_in_the_document(self):
        self.assertEqual(wrong_examples(EXAMPLES), (15, []))


class Papers(Case):
    def test_faults(self):
        for text in ("result = [p];", "[p] = nil;", "free(p);", "result = [nil];", "[result] = p;", "free(result);"):
            program = read_program("fun f(p) head empty foot empty { result = p; result = nil; " + text + " }")
            for p in (0, 1, BIG):
                self.paper(program, ("f", (), store(p=p), (), ()), "fault", (2,), 3)
        program = read_program("fun f(p) head cell(p, nil) foot empty { free(p); result = [p]; }")
        self.paper(program, ("f", (), store(p=8), ((8, 0),), ()), "fault", (1,), 2)

    def test_lost_behind_each_statement(self):
        for text, answers in (
            ("result = nil;", ()), ("result = new(nil);", (("new", 2),)), ("result = [p];", ()), ("free(p);", ()),
            ("[p] = nil;", ()), ("result = g();", (("call", 5, ()),)),
        ):
            program = read_program("fun f(p) var a head empty foot empty { while any keep cell(result, nil) * cell(p, nil) "
                                   "* a = nil { a = nil; " + text + " } } fun g() head empty foot empty { }")
            if text[0] == "r":
                heap, values = ((1, 0), (7, 0)), store(a=0, p=1, result=7)
                self.paper(program, ("f", (0,), values, heap, (("any", True),) + answers), "lost", (0, 0, 1), 3)
            else:
                bare = read_program("fun f(p) head list(p, nil) foot empty { " + text + " }")
                self.paper(bare, ("f", (), store(p=1), ((1, 7), (7, 0)), ()), "lost", (0,), 2)

    def test_spares_reach_cells_too(self):
        program = read_program("fun f(p) with s head cell(p, s) * cell(s, nil) foot empty { [p] = nil; }")
        self.paper(program, ("f", (), store(p=1, s=2), ((1, 2), (2, 0)), ()), "unkept", (), 2)
        program = read_program("fun f(p) head list(p, nil) foot empty { [p] = nil; }")
        self.paper(program, ("f", (), store(p=1), ((1, 2), (2, 0)), ()), "lost", (0,), 2)

    def test_heads(self):
        program = read_program("fun f(p) head list(p, nil) foot empty { result = g(p, nil; p); } "
                               "fun g(q, r) with s head cell(q, r) * q = s foot empty { }")
        self.paper(program, ("f", (), store(p=0), (), ()), "head", (0,), 1)
        self.paper(program, ("f", (), store(p=1), ((1, 3), (3, 0)), ()), "head", (0,), 1)
        self.none(program, ("f", (), store(p=1), ((1, 0),), ()), ("f", (), store(p=0), (), (("call", 0, ()),)))
        self.none(program, ("f", (), store(p=1), ((1, 0),), (("call", 0, ()),)))

    def test_unkept_at_whiles_and_at_the_end(self):
        program = read_program("fun f(p) head empty foot p = nil { while any keep result = p { result = p; if any { result = nil; } } }")
        self.paper(program, ("f", (), store(p=3), (), ()), "unkept", (0,), 1)
        self.none(program, ("f", (), store(p=0), (), ()))
        self.paper(program, ("f", (0,), store(p=3, result=3), (), (("any", True), ("any", True))), "unkept", (0,), 3)
        self.paper(program, ("f", (0,), store(p=3, result=3), (), (("any", False),)), "unkept", (), 1)
        self.none(program, ("f", (0,), store(p=3, result=3), (), (("any", True), ("any", False))),
                  ("f", (0,), store(p=0), (), (("any", False),)), ("f", (0,), store(p=3), (), (("any", False),)))

    def test_stretches_end_ahead_of_whiles(self):
        program = read_program("fun f(p) head empty foot empty { while any keep empty { while any keep empty { free(nil); } free(nil); } free(nil); }")
        for way in ((), (0,)):
            self.none(program, ("f", way, store(p=0), (), ()))
        self.none(program, ("f", (0,), store(p=0), (), (("any", True),)),
                  ("f", (0,), store(p=0), (), (("any", True), ("any", True))))
        self.paper(program, ("f", (0,), store(p=0), (), (("any", False),)), "fault", (1,), 1)
        self.paper(program, ("f", (0, 0, 0), store(p=0), (), (("any", True),)), "fault", (0, 0, 0, 0, 0), 1)
        self.paper(program, ("f", (0, 0, 0), store(p=0), (), (("any", False),)), "fault", (0, 0, 1), 1)

    def test_those_that_check_tells(self):
        for row in WRONG:
            program = changed(*row)
            self.assertIsNotNone(self.told(program, check(program)))
        source = random.Random(111)
        for _ in range(1000):
            program = small_program(source)
            try:
                paper = check(program)
            except (Open, TooMany):
                continue
            if paper is not None:
                self.assertIsNotNone(self.told(program, paper))

    def test_stretches_on_drawn_heaps(self):
        source = random.Random(112)
        both = [0, 0]
        for _ in range(1500):
            program = small_program(source)
            one = source.choice(program)
            way = source.choice(cuts(one))
            try:
                names = names_of(one) if way else tuple(sorted(one[1] + one[2]))
                cases = cases_of(names, whiles_of(one)[way] if way else one[4])
            except TooMany:
                continue
            for _ in range(3 if cases else 0):
                given, heap = stretched(source.choice(cases), names, source)
                if way == ():
                    given = tuple(sorted(given + tuple((name, 0) for name in one[3] + ("result",))))
                stretch = PlainStretch(program, one[0], given, heap, drawn(source))
                verdict, _ = stretch.outcome(way)
                got = self.told(program, (one[0], way, given, heap, tuple(stretch.taken)))
                both[got is not None] += 1
                self.assertEqual(got is not None, verdict not in (None, "kept"))
        self.assertGreater(min(both), 300)

    def test_none_where_check_tells_none(self):
        source = random.Random(113)
        for name in RIGHT:
            program = right(name)
            for one in program:
                for way in cuts(one):
                    names = names_of(one) if way else tuple(sorted(one[1] + one[2]))
                    for case in cases_of(names, whiles_of(one)[way] if way else one[4]):
                        given, heap = stretched(case, names, source)
                        if way == ():
                            given = tuple(sorted(given + tuple((known, 0) for known in one[3] + ("result",))))
                        stretch = PlainStretch(program, one[0], given, heap, drawn(source))
                        self.assertIn(stretch.outcome(way)[0], ("kept", None))
                        self.none(program, (one[0], way, given, heap, tuple(stretch.taken)))


class Values(Case):
    PROGRAM = read_program(
        "fun f(p) with s var a head list(p, s) foot result = p { if any { a = new(p); } a = g(p, a; s); "
        "while any keep result = nil { } result = new(a); while any { } } "
        "fun g(p, q) with s head list(p, s) foot list(p, s) * cell(q, result) | list(p, s) * list(result, q) { }")

    def test_whiles_without_keeps(self):
        given = store(a=0, p=1, s=9)
        heap = ((1, 2), (2, 9))
        self.none(self.PROGRAM, ("f", (4,), given, heap, ()), ("f", (4,), given, heap, (("any", True),)))
        self.none(self.PROGRAM, ("f", (2,), given, heap, (("any", False), ("new", 5))))
        self.none(self.PROGRAM, ("f", (2,), given, (), (("any", False), ("new", 5))))
        shut = read_program("fun f(p) head empty foot p != p { while any { free(nil); } }")
        self.none(shut, *[("f", way, store(p=0), (), answers) for way in ((), (0,), (1,), (0, 0, 0))
                          for answers in ((), (("any", True),), (("any", False),))])

    def test_cuts_that_are_none(self):
        program = read_program("fun f(p) head empty foot empty { free(nil); while any keep empty { free(nil); } if any { } }")
        good = ("f", (1,), store(p=0), (), (("any", True),))
        self.paper(program, good, "fault", (1, 0, 0), 1)
        for way in ((0,), (2,), (1, 0), (1, 0, 0), (1, 0, 0, 0), (-1,), (True,), ("1",), [1], 1, None, "1", (1.0,),
                    ((1,),), {1: 1}):
            self.none(program, good[:1] + (way,) + good[2:])
        self.paper(program, ("f", (), store(p=0), (), ()), "fault", (0,), 1)
        for way in ([], None, "", False, {}, ((),)):
            self.none(program, ("f", way, store(p=0), (), ()))

    def test_names_that_are_none(self):
        program = read_program("fun f() head empty foot empty { free(nil); } fun g(p) head empty foot empty { free(nil); }")
        self.paper(program, ("f", (), store(), (), ()), "fault", (0,), 1)
        self.paper(program, ("g", (), store(p=4), (), ()), "fault", (0,), 1)
        names = [name for name in ODD + ["g", "F", "f ", "h", "", ["f"], ("f",)] if name != "f"]
        self.none(program, *[(name, (), store(), (), ()) for name in names])

    def test_stores(self):
        program = read_program("fun f(p) var a head p != nil foot empty { free(nil); }")
        good = ("f", (), store(a=0, p=1), (), ())
        self.paper(program, good, "fault", (0,), 1)
        for given in (store(a=0), store(p=1), store(a=0, p=1, s=0), store(a=0, p=1)[::-1], store(a=0, p=0),
                      store(a=1, p=1),
                      store(a=0, p=1, result=1), store(a=0, p=True), store(a=False, p=1), store(a=0, p=-1),
                      list(store(a=0, p=1)),
                      tuple(list(item) for item in store(a=0, p=1)), store(a=0, p=1) + (("result", 0),),
                      (("a", 0), ("p", 1)),
                      store(a=0, q=1), store(a=0, p="1"), store(a=0, p=None), dict(store(a=0, p=1)),
                      (("nil", 0),) + store(a=0, p=1)):
            self.none(program, ("f", (), given, (), ()))

    def test_heaps(self):
        program = read_program("fun f(p) head list(p, nil) foot empty { free(nil); }")
        self.paper(program, ("f", (), store(p=1), ((1, 2), (2, 0)), ()), "fault", (0,), 1)
        self.paper(program, ("f", (), store(p=2), ((1, 0), (2, 1)), ()), "fault", (0,), 1)
        for heap in (((2, 0), (1, 2)), ((1, 2),), ((1, 2), (2, 0), (3, 0)), [(1, 2), (2, 0)], ((1, 2), [2, 0]),
                     ((1, 2), (2, False)),
                     ((True, 2), (2, 0)), ((0, 0), (1, 2), (2, 0)), ((1, 2), (2, 0), (2, 0)), (), ((1, 2), (2, -1)),
                     None):
            self.none(program, ("f", (), store(p=1), heap, ()))

    def test_any_answers(self):
        program = read_program("fun f(p) head empty foot empty { if any { } else { if any { free(nil); } } }")
        good = (("any", False), ("any", True))
        self.paper(program, ("f", (), store(p=0), (), good), "fault", (0, 1, 0, 0, 0), 1)
        for answers in ((), good[:1], good + good[:1], good + good[1:], good[::-1], list(good),
                        tuple(list(item) for item in good),
                        (("any", 0), ("any", 1)), (("any", False), ("any", 1)), (("any", False), ("new", 1)),
                        (("any", True),),
                        (("any", False, 0), good[1]), (("any",), good[1]), (good[0], good[1], None), (False, True),
                        ((), ()),
                        (("any", None), good[1]), (good[0], ("call", 0, ())), (good,), (good[0], "any")):
            self.none(program, ("f", (), store(p=0), (), answers))

    def test_new_answers(self):
        program = read_program("fun f(p) head list(p, nil) foot empty { result = new(p); }")
        heap = ((1, 2), (2, 0))
        for address in (3, 4, BIG, 10 ** 20):
            self.paper(program, ("f", (), store(p=1), heap, (("new", address),)), "unkept", (), 2)
        for answers in ((("new", 1),), (("new", 2),), (("new", 0),), (("new", True),), (("new", -1),), (("new", "3"),),
                        (("new", None),),
                        (), (("new", 3), ("new", 4)), (("any", True),), (("new", 3, 4),), (["new", 3],), [("new", 3)],
                        (("new", 3.0),),
                        (("call", 3, ((3, 1),)),), (("new", (3,)),), ("new", 3), (("New", 3),)):
            self.none(program, ("f", (), store(p=1), heap, answers))
        twice = read_program("fun f(p) head p = nil foot empty { result = new(p); free(result); result = new(result); }")
        for other in (1, 2, 5):
            self.paper(twice, ("f", (), store(p=0), (), (("new", 5), ("new", other))), "unkept", (), 4)

    def test_call_answers(self):
        program = read_program("fun f(p, q) head list(p, nil) * list(q, nil) foot empty { result = g(p); } "
                               "fun g(p) head list(p, nil) foot list(p, result) * list(result, nil) { }")
        heap = ((1, 2), (2, 0), (7, 0), (8, 7))
        good = ("f", (), store(p=1, q=8), heap)
        for given, piece in ((1, ((1, 0),)), (0, ((1, 0),)), (2, ((1, 2), (2, 0))), (5, ((1, 5), (5, 3), (3, 0))),
                             (9, ((1, 9), (9, 0)))):
            self.paper(program, good + ((("call", given, tuple(sorted(piece))),),), "unkept", (), 2)
        for answer in (("call", 2, ((1, 2),)), ("call", 0, ()), ("call", 7, ((1, 7),)), ("call", 7, ((1, 7), (7, 0))),
                       ("call", 0, ((2, 0),)),
                       ("call", 3, ((1, 0),)), ("call", 1, ((1, 0), (3, 0))), ("call", True, ((1, 0),)),
                       ("call", False, ((1, 0),)),
                       ("call", -1, ((1, 0),)), ("call", 1, [(1, 0)]), ("call", 1, ([1, 0],)), ["call", 1, ((1, 0),)],
                       ("call", 1, ((1, False),)), ("call", 1, ((True, 0),)), ("call", 5, ((5, 3), (1, 5), (3, 0))),
                       ("call", 1),
                       ("call", 1, ((1, 0),), ()), ("call", 1, None), ("call", None, ((1, 0),)), ("new", 1),
                       ("any", True), None,
                       ("call", 1, ((0, 0), (1, 0)))):
            self.none(program, good + ((answer,),))
        self.none(program, good + ((),), good + ((("call", 1, ((1, 0),)),) * 2,), good + ([("call", 1, ((1, 0),))],))

    def test_cells_of_the_part_may_be_given_anew_and_what_is_left_may_not(self):
        program = read_program("fun f(p) with s head cell(p, s) * cell(s, nil) foot empty { result = g(p; s); } "
                               "fun g(p) with s head cell(p, s) foot list(result, nil) { }")
        good = ("f", (), store(p=1, s=2), ((1, 2), (2, 0)))
        for given, piece in ((1, ((1, 0),)), (3, ((1, 0), (3, 1))), (0, ()), (3, ((3, 0),))):
            self.paper(program, good + ((("call", given, piece),),), "unkept", (), 2)
        self.none(program, good + ((("call", 2, ((2, 0),)),),), good + ((("call", 1, ((1, 2), (2, 0))),),))

    def test_no_right_answer(self):
        program = read_program("fun f(p) head empty foot p != p { result = g(p); } fun g(p) head empty foot p != p { }")
        self.none(program, *[("f", (), store(p=p), (), answers) for p in (0, 1) for answers in
                             ((), (("call", 0, ()),), (("call", 1, ((1, 1),)),), (("any", True),))])

    def test_addresses_called_otherwise(self):
        source = random.Random(114)
        many = 0
        for _ in range(1500):
            program = small_program(source)
            try:
                paper = check(program)
            except (Open, TooMany):
                continue
            if paper is None:
                continue
            many += 1
            others = source.sample(range(1, 500), 100) if source.randint(0, 1) else source.sample(range(1, 101), 100)
            names = dict(zip(range(1, 101), others))
            name, way, given, heap, answers = paper
            told = tuple((word, *(renamed(item, names) for item in rest)) if word != "any" else (word, *rest)
                         for word, *rest in answers)
            told = tuple(row[:2] + (tuple(sorted(row[2])),) if row[0] == "call" else row for row in told)
            other = (name, way, renamed(given, names), tuple(sorted(renamed(heap, names))), told)
            got, meant = self.told(program, other), self.told(program, paper)
            self.assertEqual(got[:2], meant[:2])
        self.assertGreater(many, 800)

    def test_values_of_all_kinds(self):
        for program in (self.PROGRAM, right("turn"), read_program("fun f() head empty foot empty { free(nil); }")):
            for value in ODD + [ODD, tuple(ODD), ("f",) * 5, ("f", (), (), (), ()), (None,) * 5, ("f", (), store(), ()),
                                ("f", (), store(), (), (), ()), program, program[0], {"f": 1}]:
                self.none(program, value)
        deep = ()
        for _ in range(38):
            deep = (deep,)
        program = read_program("fun f() head empty foot empty { if any { free(nil); } }")
        good = ("f", (), store(), (), (("any", True),))
        self.assertIsNotNone(self.told(program, good))
        for spot in range(5):
            for value in ODD + [deep, [deep], "x" * 20000, tuple(range(7000))]:
                if repr(value) != repr(good[spot]):
                    self.none(program, good[:spot] + (value,) + good[spot + 1:])

    def test_papers_with_parts_changed(self):
        source = random.Random(115)
        both = [0, 0]
        for _ in range(700):
            program = small_program(source) if source.randint(0, 3) else any_program(source, 2)
            try:
                paper = check(program)
            except (Open, TooMany):
                continue
            if paper is None:
                continue
            for _ in range(12):
                got = self.told(program, self.with_change(paper, source))
                both[got is not None] += 1
        self.assertGreater(min(both), 300)

    def with_change(self, value, source):
        """The value with a part of it, at random, changed or left out or told twice."""
        if isinstance(value, tuple) and value and source.randint(0, 4):
            spot = source.randrange(len(value))
            if source.randint(0, 9) == 0:
                return value[:spot] + value[spot + 1:]
            if source.randint(0, 9) == 0:
                return value[:spot] + (value[spot],) + value[spot:]
            return value[:spot] + (self.with_change(value[spot], source),) + value[spot + 1:]
        if type(value) is bool:
            return source.choice([not value, int(value), None])
        if type(value) is int:
            return source.choice([0, 1, 2, 3, value + 1, max(0, value - 1), 7, bool(value), str(value)])
        if isinstance(value, tuple):
            return source.choice([list(value), (), value[::-1], value + (("any", True),), None, value + value])
        return source.choice(["f", "g", "any", "new", "call", None, value + "a"])


class Replays(Case):
    def test_rows_behind_each_statement_that_was_done(self):
        program = read_program(
            "fun f(p) var a head cell(p, nil) foot empty { a = new(p); if any { [p] = a; } a = [p]; if a != nil { a = g(a); free(p); } } "
            "fun g(q) head empty foot cell(result, q) { }")
        paper = ("f", (), store(a=0, p=4), ((4, 0),), (("new", 9), ("any", True), ("call", 2, ((2, 9),))))
        self.assertEqual(replay(program, paper), ("unkept", (), (
            (store(a=0, p=4), ((4, 0),)), (store(a=9, p=4), ((4, 0), (9, 4))), (store(a=9, p=4), ((4, 9), (9, 4))),
            (store(a=9, p=4), ((4, 9), (9, 4))), (store(a=2, p=4), ((2, 9), (4, 9), (9, 4))),
            (store(a=2, p=4), ((2, 9), (9, 4))),
        )))
        self.assertIsNotNone(self.told(program, paper))


class ByName(Case):
    def test_by_place_and_by_name_twice(self):
        program = changed("join", " [a] = y;", "")
        for value in (check(program), check(program)[:4], [1, {"a": [()]}], None):
            self.assertIs(same_twice(self, goes_wrong, {"program": program, "value": value}), value == check(program))
        self.assertEqual(len(same_twice(self, replay, {"program": program, "value": check(program)})), 3)
        for _ in (0, 1):
            with self.assertRaises(Unfit):
                replay(value=None, program=program)


if __name__ == "__main__":
    unittest.main()
