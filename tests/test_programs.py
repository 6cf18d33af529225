"""Programs: program_error, names_of, ways_of and statement_at, as A3 and E1 to E3 tell of them."""

import copy
import random
import unittest

from examples import wrong_examples
from heldapart.errors import BadText, HeldError, Open, Unfit
from heldapart.programs import names_of, program_error, statement_at, ways_of
from heldapart.sayingtexts import read_saying
from making import EMPTY, NO_TUPLES, any_program, function, nested
from shapes import same_twice

EXAMPLES = r"""
    >>> from heldapart.programs import names_of, program_error, statement_at, ways_of
    >>> tip = ("tip", ("p",), ("s",), (), (((), (("cell", "p", "s"),)),), (((), (("cell", "p", "nil"),)),), (("put", "p", "nil"),))
    >>> cells = (((), (("cell", "q", "nil"),)),)
    >>> use = ("use", ("q",), (), ("c",), cells, cells, (("call", "c", "tip", ("q",), ("nil",)), ("if", ("any",), (("set", "c", "q"),), ())))
    >>> program_error((tip,)), program_error((tip, use)), program_error((use, tip)), names_of(tip), names_of(use)
    (None, None, None, ('p', 'result', 's'), ('c', 'q', 'result'))
    >>> [program_error(value) for value in ((), [tip], (tip, tip), (use,), (tip[:6],), None)]
    ['form', 'form', ('name', 1), ('call', 0, (0,)), 'form', 'form']
    >>> [program_error((tip[:spot] + (item,) + tip[spot + 1:],)) for spot, item in ((0, "nil"), (3, ("p",)), (3, ("a", "b", "c", "d")), (4, tip[4] * 2), (4, tip[5]), (5, use[5]))]
    [('name', 0), ('names', 0), ('names', 0), ('head', 0), None, ('foot', 0)]
    >>> bodies = (), (("put", "s", "nil"),), (("set", "p", "nil"),), (("free", "p"), ("while", ("any",), None, [])), (("set", "result", "p"),) * 41, [("free", "p")]
    >>> [program_error((tip[:6] + (body,),)) for body in bodies]
    [None, ('statement', 0, (0,)), ('statement', 0, (0,)), ('statement', 0, (1,)), ('many', 0), ('statement', 0, ())]
    >>> ways_of(use), statement_at(use, (1, 0, 0)), ways_of(tip)
    (((0,), (1,), (1, 0, 0)), ('set', 'c', 'q'), ((0,),))
    >>> statement_at(use, (1, 1, 0))
    raises Unfit()
"""

WORDS = """nil result fun head foot with var if else while keep new free any cell list empty is isnt""".split()
NO_NAMES = [
    *WORDS, "", "X", "xY", "x1", "x ", " x", "x\n", "abcdefghi", "x,y", "_", "1", None, True, False, 0, 1, -1, 10 ** 399,
    (), ("x",), ["x"], [], {}, {"x": 1}, BadText(), Open("x", (0,)),
]
STATEMENTS = [
    ("set", "w", "p"), ("new", "result", "nil"), ("get", "w", "w"), ("put", "p", "result"), ("free", "w"),
    ("call", "w", "f", ("p",), ("s",)), ("if", ("any",), (), ()), ("while", ("isnt", "p", "nil"), None, ()),
]


def over(body, **others):
    return function(body=body, **others)


class Case(unittest.TestCase):
    def told(self, value, meant):
        got = program_error(value)
        self.assertEqual(got, meant, value)
        self.assertEqual(repr(got), repr(meant))

    def right(self, value):
        self.told(value, None)

    def wrong(self, item, *meant):
        """The item is wrong alone, and among right ones."""
        others = tuple(function(name="a" * many) for many in range(1, 6))
        for ahead, behind in ((0, 0), (1, 0), (0, 1), (2, 2), (5, 0), (0, 5)):
            value = others[:ahead] + (item,) + others[ahead:ahead + behind]
            self.told(value, (meant[0], ahead) + meant[1:])


class Examples(unittest.TestCase):
    def test_examples_as_they_stand_in_the_document(self):
        self.assertEqual(wrong_examples(EXAMPLES), (11, []))


class Forms(Case):
    def test_numbers_of_functions(self):
        rows = tuple(function(name="f" * many) for many in range(1, 8))
        for many in range(1, 7):
            self.right(rows[:many])
            self.right(rows[:many][::-1])
        for value in ((), rows, rows * 300):
            self.told(value, "form")

    def test_no_tuples(self):
        good = function()
        for value in NO_TUPLES + [BadText(), Open("f", ()), [good], {good: good}, (good, list(good)), (list(good),)]:
            self.told(value, "form")
        for value in NO_TUPLES + [BadText(), (), (good,), good + good, "abcdefg", ["f"] * 7]:
            self.told((value,), "form")
            self.told((good, value), "form")
            self.told((value, good), "form")

    def test_items_of_other_lengths(self):
        good = function()
        for item in (good[:6], good + ((),), good[1:], good[:1], good + good):
            self.told((item,), "form")
            self.told((good, item), "form")
            self.told((item, good), "form")

    def test_form_is_told_ahead_of_all(self):
        self.told((function(name="nil"), None), "form")
        self.told((function(name="nil"),) * 7, "form")
        self.told((function(body=None), function(name="g")[:6]), "form")

    def test_deep_values(self):
        deep = ()
        for _ in range(36):
            deep = (deep,)
        self.told(deep, "form")
        self.wrong(function(params=deep), "names")
        self.wrong(function(head=deep), "head")
        self.wrong(function(foot=deep), "foot")
        self.wrong(function(body=deep), "statement", (0,))
        self.wrong(function(body=(("if", ("any",), deep, ()),)), "statement", (0, 0, 0))
        self.wrong(function(body=(("while", ("any",), deep, ()),)), "statement", (0,))


class Names(Case):
    def test_names_of_functions(self):
        for name in ("f", "abcdefgh", "p", "s", "w", "turn", "isn", "news", "set", "call"):
            self.right((function(name=name),))
        for name in NO_NAMES:
            self.wrong(function(name=name), "name")

    def test_names_of_functions_that_stand_twice(self):
        one, other, third = function(name="f"), function(name="g"), function(name="h")
        self.told((one, one), ("name", 1))
        self.told((one, other, one), ("name", 2))
        self.told((one, other, other, one), ("name", 2))
        self.told((one, other, third, function(name="f", params=())), ("name", 3))
        self.right((one, other, third))

    def test_tuples_of_names(self):
        for spot in ("params", "spares", "wheres"):
            self.right((function(**{spot: ()}),))
            self.right((function(**{spot: ("a", "b", "c")}),))
            for name in NO_NAMES:
                self.wrong(function(**{spot: (name,)}), "names")
                self.wrong(function(**{spot: ("a", name)}), "names")
                self.wrong(function(**{spot: (name, "a")}), "names")
            for value in NO_TUPLES + [["a"], [], {"a": 1}, "a", "abc", BadText()]:
                self.wrong(function(**{spot: value}), "names")

    def test_names_that_stand_twice(self):
        for spot in ("params", "spares", "wheres"):
            self.wrong(function(**{spot: ("a", "a")}), "names")
            self.wrong(function(**{spot: ("a", "b", "a")}), "names")
        for spot, names in (("params", ("s",)), ("params", ("w",)), ("spares", ("p",)), ("spares", ("a", "w")),
                            ("wheres", ("p",)), ("wheres", ("a", "s"))):
            self.wrong(function(**{spot: names}), "names")

    def test_at_most_six_names_with_result(self):
        names = ("a", "b", "c", "d", "e", "g")
        for cut in range(6):
            for end in range(cut, 6):
                self.right((function(params=names[:cut], spares=names[cut:end], wheres=names[end:5]),))
                self.wrong(function(params=names[:cut], spares=names[cut:end], wheres=names[end:6]), "names")
        self.wrong(function(params=names, spares=(), wheres=()), "names")
        self.wrong(function(params=("p",) * 2000, spares=(), wheres=()), "names")

    def test_a_function_may_be_named_like_its_names(self):
        self.right((function(name="p"), function(name="w")))


class Sayings(Case):
    def test_heads(self):
        for text in ("empty", "cell(p, s)", "p = nil * list(p, nil)", "s != nil", "list(s, p) * cell(nil, nil)"):
            self.right((function(head=read_saying(text)),))
        for text in ("w = nil", "cell(p, w)", "list(p, result)", "result = nil", "cell(p, x)", "empty | empty",
                     "cell(p, s) | cell(p, s)", "f = nil", "list(w, nil) * cell(p, s)"):
            self.wrong(function(head=read_saying(text)), "head")
        for value in NO_TUPLES + [(), list(EMPTY), [((), ())], ((),), ((), ()), EMPTY * 65, ((("is", "p"),), ()),
                                  (((("is", "p", "S"),), ()),), "cell(p, s)", BadText()]:
            self.wrong(function(head=value), "head")

    def test_feet(self):
        for text in ("empty", "cell(p, s)", "result = nil | result != nil * list(result, s)", "p = s", "empty | empty"):
            self.right((function(foot=read_saying(text)),))
        self.right((function(foot=EMPTY * 64),))
        for text in ("w = nil", "cell(p, w)", "x = nil", "empty | result = w", "empty | empty | list(w, nil)"):
            self.wrong(function(foot=read_saying(text)), "foot")
        for value in NO_TUPLES + [(), list(EMPTY), ((),), ((), ()), EMPTY * 65, EMPTY + ((("is", "p"),), ()), "empty"]:
            self.wrong(function(foot=value), "foot")

    def test_keeps(self):
        for text in ("empty", "p = s * w = result", "cell(p, s) | list(w, result)", "list(nil, nil)"):
            for test in (("any",), ("is", "p", "w")):
                self.right((over((("while", test, read_saying(text), ()),)),))
        self.right((over((("while", ("any",), EMPTY * 64, ()),)),))
        for text in ("x = nil", "cell(p, f)", "empty | q = nil"):
            self.wrong(over((("while", ("any",), read_saying(text), ()),)), "statement", (0,))
        for value in [row for row in NO_TUPLES if row is not None] + [(), list(EMPTY), ((), ()), EMPTY * 65, "empty"]:
            self.wrong(over((("while", ("any",), value, ()),)), "statement", (0,))


class Statements(Case):
    def bad(self, statement):
        """The statement is none alone, behind others, ahead of them, and in others."""
        for body, way in (
            ((statement,), (0,)),
            ((("free", "p"), statement), (1,)),
            ((statement, None), (0,)),
            ((("if", ("any",), (statement,), ()),), (0, 0, 0)),
            ((("if", ("any",), (("free", "p"),), (("free", "p"), statement)),), (0, 1, 1)),
            ((("free", "p"), ("while", ("any",), None, (statement,))), (1, 0, 0)),
            ((nested(4, statement),), (0, 1, 0, 1, 0, 1, 0, 1, 0)),
        ):
            self.told((over(body),), ("statement", 0, way))

    def good(self, statement):
        self.right((over((statement,)),))
        self.right((over((nested(4, statement), statement)),))

    def test_goals_and_terms(self):
        for word in ("set", "new", "get"):
            for goal in ("w", "result"):
                for term in ("nil", "p", "w", "result"):
                    self.good((word, goal, term))
            for goal in ("p", "s", "nil", "x", "f", "W", *NO_NAMES):
                if goal != "result":
                    self.bad((word, goal, "p"))
            for term in ("s", "x", "f", *NO_NAMES):
                if term not in ("nil", "result"):
                    self.bad((word, "w", term))

    def test_put_and_free(self):
        terms = ("nil", "p", "w", "result")
        for term in terms:
            self.good(("free", term))
            for other in terms:
                self.good(("put", term, other))
        for term in ("s", "x", "f", *NO_NAMES):
            if term not in ("nil", "result"):
                self.bad(("free", term))
                self.bad(("put", term, "p"))
                self.bad(("put", "p", term))

    def test_tests(self):
        tests = [("any",)] + [(word, a, b) for word in ("is", "isnt") for a in ("nil", "p", "w", "result")
                              for b in ("nil", "p", "w", "result")]
        for test in tests:
            self.good(("if", test, (), ()))
            self.good(("while", test, None, ()))
        for test in NO_TUPLES + [
            (), ["any"], "any", ("any", "p"), ("Any",), ("is",), ("isnt",), ("is", "p"), ("is", "p", "w", "w"),
            ["is", "p", "w"], ("as", "p", "w"), ("cell", "p", "w"), ("list", "p", "w"), ("any", "p", "w"),
            ("is", "s", "p"), ("is", "p", "s"), ("isnt", "x", "p"), ("isnt", "p", "f"), ("is", "p", None),
            ("is", ["p"], "w"), ("is", "P", "w"), ("nil", "p", "w"), (("any",),), (["is"], "p", "w"), (None, "p", "w"),
        ]:
            self.bad(("if", test, (), ()))
            self.bad(("while", test, None, ()))
            self.bad(("while", test, EMPTY, ()))

    def test_calls(self):
        for goal in ("w", "result"):
            for arg in ("nil", "p", "w", "result"):
                for spare in ("nil", "p", "w", "result", "s"):
                    self.good(("call", goal, "f", (arg,), (spare,)))
        for goal in ("p", "s", "nil", "x", None, ["w"]):
            self.bad(("call", goal, "f", ("p",), ("s",)))
        for callee in NO_NAMES:
            self.bad(("call", "w", callee, ("p",), ("s",)))
        for args in [*NO_TUPLES, ["p"], ("s",), ("x",), ("p", "s"), ("p", None), (("p",),), ("f",), ("P",)]:
            self.bad(("call", "w", "f", args, ("s",)))
        for spares in [*NO_TUPLES, ["s"], ("x",), ("s", "x"), ("s", None), (("s",),), ("f",), ("S",)]:
            self.bad(("call", "w", "f", ("p",), spares))

    def test_items_more_and_less(self):
        for statement in STATEMENTS:
            self.good(statement)
            self.bad(statement + ("p",))
            self.bad(statement + ((),))
            self.bad(statement[:-1])
            self.bad(statement[:1])
            self.bad(statement[1:])
            self.bad(list(statement))
            for spot in range(len(statement)):
                self.bad(statement[:spot] + (list(statement[spot]) if type(statement[spot]) is tuple else
                                             [statement[spot]],) + statement[spot + 1:])
        self.good(("while", ("any",), EMPTY, ()))
        self.bad(("while", ("any",), ()))
        self.bad(("while", ("any",), (), None))
        self.bad(("if", ("any",), ()))
        self.bad(("if", ("any",), None, ()))

    def test_other_kinds(self):
        for word in ["", "Set", "sets", "se", "set ", "is", "isnt", "any", "jump", "unless", "back", "nil", "w", "f",
                     "else", "keep", None, True, 0, (), ["set"], ("set",), {"set": 1}, BadText()]:
            for items in ((), ("w",), ("w", "p"), (("any",), (), ()), ("w", "f", ("p",), ("s",))):
                self.bad((word,) + items)

    def test_statements_that_are_no_tuples(self):
        for value in NO_TUPLES + [(), ["free", "p"], "set", BadText(), {"free": "p"}, ((),), (("free", "p"),)]:
            self.bad(value)

    def test_inner_statements_that_are_no_tuples(self):
        for value in NO_TUPLES + [[("free", "p")], BadText()]:
            self.bad(("if", ("any",), value, ()))
            self.bad(("if", ("any",), (), value))
            self.bad(("while", ("any",), None, value))

    def test_a_wrong_statement_is_told_ahead_of_what_stands_in_it(self):
        for statement in (
            ("if", ("any", "p"), (None,), ()), ("if", ("any",), (None,), []), ("if", ("any",), [], (None,)),
            ("while", ("is", "p", "s"), None, (None,)), ("while", ("any",), (), (None,)),
            ("if", ("any",), (None,), (), ()), ("while", ("any",), read_saying("x = x"), (None,)),
        ):
            self.bad(statement)
        self.told((over((("if", ("any",), (("free", "p"),), (None,)), None)),), ("statement", 0, (0, 1, 0)))
        self.told((over((("if", ("any",), (("free", "p"), None), (None,)), None)),), ("statement", 0, (0, 0, 1)))
        self.told((over((("if", ("any",), (), ()), None, ("if", (), (), ()))),), ("statement", 0, (1,)))

    def test_bodies_that_are_no_tuples(self):
        for value in NO_TUPLES + [[("free", "p")], BadText(), {(): 1}]:
            self.wrong(over(value), "statement", ())

    def test_first_wrong_one_by_ascending_ways(self):
        inner = ("if", ("any",), (("free", "p"), ("if", ("any",), (), (None,)), None), (None,))
        self.told((over((("free", "p"), inner, None)),), ("statement", 0, (1, 0, 1, 1, 0)))
        body = tuple(("free", "p") for _ in range(11)) + (("free", "s"),) + (("free", "p"),) * 2 + (None,)
        self.told((over(body),), ("statement", 0, (11,)))

    def test_four_deep_and_five(self):
        for word in ("if", "while"):
            step = 1 if word == "if" else 0
            for statement in STATEMENTS:
                self.right((over((nested(4, statement, word),)),))
                self.told((over((nested(5, statement, word),)),), ("statement", 0, (0,) + (step, 0) * 5))
            self.told((over((nested(9, ("free", "p"), word),)),), ("statement", 0, (0,) + (step, 0) * 5))
            self.told((over((nested(30, ("free", "p"), word),)),), ("statement", 0, (0,) + (step, 0) * 5))
            self.told((over((nested(4, ("free", "s"), word), nested(5, None, word))),),
                      ("statement", 0, (0,) + (step, 0) * 4))
            self.told((over((nested(5, None, word),)),), ("statement", 0, (0,) + (step, 0) * 5))
        body = (nested(4, ("if", ("any",), (), (("free", "p"),))), None)
        self.told((over(body),), ("statement", 0, (0,) + (1, 0) * 5))

    def test_forty_and_forty_one(self):
        row = (("free", "p"),)
        for many in (0, 1, 39, 40):
            self.right((over(row * many),))
        for many in (41, 42, 100, 1000):
            self.wrong(over(row * many), "many")
        for inner in (("if", ("any",), row * 20, row * 17), ("while", ("any",), None, row * 37)):
            self.right((over(row + (inner,) + row),))
            self.wrong(over(row * 2 + (inner,) + row), "many")
        self.right((over(row * 35 + (nested(4, ("free", "p")),)),))
        self.wrong(over(row * 36 + (nested(4, ("free", "p")),)), "many")

    def test_statements_are_looked_at_ahead_of_how_many_they_are(self):
        row = (("free", "p"),)
        self.wrong(over(row * 60 + (None,)), "statement", (60,))
        self.wrong(over(row * 60 + (nested(5, ("free", "p")),)), "statement", (60,) + (1, 0) * 5)


class Firsts(Case):
    def test_kinds_of_wrong_things_in_order(self):
        changes = [("name", {"name": "nil"}), ("names", {"params": ("p", "p")}), ("head", {"head": EMPTY * 2}),
                   ("foot", {"foot": ()}), ("statement", {"body": (("free", "p"),) * 41 + (None,)})]
        for at, (word, _) in enumerate(changes):
            item = function(**{key: value for _, change in changes[at:] for key, value in change.items()})
            self.wrong(item, word, *([(41,)] if word == "statement" else []))

    def test_first_wrong_item_is_told(self):
        bad = [function(name="a", body=(None,)), function(name="b", foot=()), function(name="c", head=()),
               function(name="d", wheres=("p",)), function(name="nil"), function(name="g", body=(("free", "p"),) * 41)]
        words = [("statement", (0,)), ("foot",), ("head",), ("names",), ("name",), ("many",)]
        for at in range(6):
            value = bad[at:] + bad[:at]
            self.told(tuple(value), (words[at][0], 0) + words[at][1:])
            self.told((function(),) + tuple(value[:5]), (words[at][0], 1) + words[at][1:])

    def test_calls_are_looked_at_last(self):
        call = over((("call", "w", "g", (), ()),))
        self.told((call,), ("call", 0, (0,)))
        self.told((call, function(name="g")), ("call", 0, (0,)))
        self.told((call, function(name="f")), ("name", 1))
        self.told((call, function(name="g", params=(), spares=(), foot=())), ("foot", 1))
        self.told((call, function(name="g", body=(("free", "p"),) * 41)), ("many", 1))
        self.told((call, function(name="g", params=(), spares=())), None)
        self.told((over((("call", "w", "g", (), ()),) * 41),), ("many", 0))

    def test_calls_that_do_not_fit(self):
        for params in range(3):
            for spares in range(3):
                callee = function(name="g", params=("a", "b")[:params], spares=("c", "d")[:spares])
                for args in range(3):
                    for handed in range(3):
                        call = ("call", "w", "g", ("p",) * args, ("s",) * handed)
                        meant = None if (args, handed) == (params, spares) else ("call", 0, (0,))
                        self.told((over((call,)), callee), meant)
                        meant = meant and ("call", 1, (0,))
                        self.told((callee, over((call,))), meant)

    def test_calls_of_itself_and_of_functions_behind(self):
        own = ("call", "w", "f", ("p",), ("s",))
        other = ("call", "result", "g", ("w",), ("w",))
        self.right((over((own,)),))
        self.right((over((own, other)), function(name="g", body=(own, other))))
        self.told((over((own, other)),), ("call", 0, (1,)))
        self.told((over((("call", "w", "f", (), ("s",)),)),), ("call", 0, (0,)))

    def test_first_call_that_does_not_fit(self):
        own, bad = ("call", "w", "f", ("p",), ("s",)), ("call", "w", "x", ("p",), ("s",))
        inner = ("if", ("any",), (own, ("while", ("any",), None, (own, bad))), (bad,))
        self.told((over((own, inner, bad)),), ("call", 0, (1, 0, 1, 0, 1)))
        self.told((over((own,)), function(name="g", body=(own, own, bad, bad))), ("call", 1, (2,)))
        self.told((over((own, bad)), function(name="g", body=(bad,))), ("call", 0, (1,)))
        self.told((over((("if", ("any",), (), (bad,)),)), function(name="g")), ("call", 0, (0, 1, 0)))

    def test_random_programs(self):
        source = random.Random(31)
        for _ in range(300):
            self.right(any_program(source))


class Ways(unittest.TestCase):
    def test_names(self):
        self.assertEqual(names_of(function()), ("p", "result", "s", "w"))
        self.assertEqual(names_of(function(params=(), spares=(), wheres=())), ("result",))
        self.assertEqual(names_of(function(params=("z", "a"), spares=("s",), wheres=("q", "rr"))),
                         ("a", "q", "result", "rr", "s", "z"))

    def test_bodies_without_statements(self):
        self.assertEqual(ways_of(function()), ())
        for way in ((), (0,), (0, 0, 0), (-1,)):
            self.unfit(function(), way)

    def unfit(self, item, way):
        with self.assertRaises(Unfit) as caught:
            statement_at(item, way)
        self.assertIs(type(caught.exception), Unfit)
        self.assertIsInstance(caught.exception, HeldError)

    def test_statements_in_one_another(self):
        free, put = ("free", "p"), ("put", "p", "nil")
        loop = ("while", ("any",), EMPTY, (put, ("if", ("any",), (), (free, put))))
        choice = ("if", ("is", "p", "nil"), (free, loop), ())
        item = over((put, choice, free))
        ways = ((0,), (1,), (1, 0, 0), (1, 0, 1), (1, 0, 1, 0, 0), (1, 0, 1, 0, 1), (1, 0, 1, 0, 1, 1, 0),
                (1, 0, 1, 0, 1, 1, 1), (2,))
        self.assertEqual(ways_of(item), ways)
        met = (put, choice, free, loop, put, loop[3][1], free, put, free)
        self.assertEqual([statement_at(item, way) for way in ways], list(met))
        for way in ((), (3,), (-1,), (0, 0, 0), (1, 1, 0), (1, 0, 2), (1, 0), (1, 0, 1, 0), (1, 0, 1, 1, 0), (1, 2, 0),
                    (1, 0, 1, 0, 1, 0, 0), (1, 0, 1, 0, 1, 1, 2), (1, -1, 0), (1, 0, -1), (1, 0, 1, 0, 1, 1, 0, 0, 0),
                    (2, 0, 0), (10 ** 300,), (0,) * 3000, (1, 0, 10 ** 50), (-3,), (1, 0, 1, 0, 1, 1, -1)):
            self.unfit(item, way)

    def test_random_functions(self):
        source = random.Random(33)
        for _ in range(200):
            for item in any_program(source):
                ways = ways_of(item)
                self.assertIs(type(ways), tuple)
                self.assertEqual(list(ways), sorted(set(ways)))
                self.assertLessEqual(len(ways), 40)
                self.assertEqual(sorted(names_of(item)), sorted({*item[1], *item[2], *item[3], "result"}))
                for way in ways:
                    rows = item[6]
                    for at in range(0, len(way) - 1, 2):
                        statement = rows[way[at]]
                        rows = statement[2 + way[at + 1]] if statement[0] == "if" else statement[3]
                    self.assertEqual(statement_at(item, way), rows[way[-1]])
                    self.unfit(item, way[:-1])
                    self.unfit(item, way[:-1] + (way[-1] + 41,))
                    self.unfit(item, way[:-1] + (way[-1] - 41,))


class Calls(unittest.TestCase):
    def test_by_place_and_by_name_twice(self):
        good = over((nested(2, ("free", "p")), ("set", "w", "p")))
        values = [(good,), (good, good), (), None, [good], (over([("free", "p")]),), (over((["free", "p"],)),),
                  (over((("free", ["p"]),)),), (function(params=["p"]),), ({"x": [1]},), (over(({},)),)]
        for value in values:
            before = copy.deepcopy(value)
            same_twice(self, program_error, {"value": value})
            self.assertEqual(repr(value), repr(before))
        same_twice(self, names_of, {"function": good})
        same_twice(self, ways_of, {"function": good})
        self.assertEqual(same_twice(self, statement_at, {"function": good, "way": (1,)}), ("set", "w", "p"))
        for _ in (0, 1):
            with self.assertRaises(Unfit):
                statement_at(way=(2,), function=good)
        self.assertEqual(program_error(program_error((good, good))), "form")
        self.assertEqual(program_error((good, good, program_error(()))), "form")


if __name__ == "__main__":
    unittest.main()
