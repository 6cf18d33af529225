"""Desks: Desk and desk_behind, as A3, M1 to M3 and M6 tell of them."""

import copy
import random
import unittest

from examples import wrong_examples
from heldapart.checking import check
from heldapart.desks import Desk, desk_behind
from heldapart.errors import (
    BadLog, BadProgram, BadText, HeldError, NoFunction, NothingToRedo, NothingToUndo, NoVersion, Open, TooMany,
    TooManyEdits, Unfit, Untold,
)
from heldapart.finding import found
from heldapart.judging import goes_wrong
from heldapart.programs import names_of, program_error
from heldapart.programtexts import function_text, read_function, read_program
from heldapart.running import run
from heldapart.sayings import names_in
from heldapart.sayingtexts import read_saying
from known import MANY, OVER, RIGHT, SPOILT
from making import NO_TUPLES
from naively import rekept
from plainly import whiles_of

EXAMPLES = r"""
    >>> from heldapart.desks import Desk, desk_behind
    >>> tail = "fun tail(p) head list(p, nil) foot list(result, nil) { result = [p]; free(p); }"
    >>> good = "fun tail(p) head p != nil * list(p, nil) foot list(result, nil) { result = [p]; free(p); }"
    >>> d = Desk()
    >>> [d.put(tail), d.version, d.check()]
    [1, 1, ('tail', (), (('p', 0), ('result', 0)), (), ())]
    >>> [d.put(good), d.check(), d.undo(), d.redo(), d.log == (("put", tail), ("put", good)), len(d.at(0))]
    [2, None, 1, 2, True, 0]
    >>> d.run("tail", (4,), ((4, 6), (6, 0)), (), 9), d.run("tail", (0,), (), (), 9)
    (('done', 6, ((6, 0),), 2), ('fault', 'tail', (0,), (), 1))
    >>> bare = "fun turn(p) var a, b head list(p, nil) foot list(result, nil) { a = p; while a != nil { b = [a]; [a] = result; result = a; a = b; } }"
    >>> d.put(bare)
    3
    >>> d.check()
    raises Open('turn', (1,))
    >>> [d.find(), d.check(), d.keep("turn", (1,), "list(a, nil) * list(result, nil)"), d.check()]
    [4, None, 5, None]
    >>> d.keep("turn", (0,), "empty")
    raises Unfit()
    >>> d.keep("turn", (1,), "list(a, c)")
    raises Unfit()
    >>> d.drop("head")
    raises NoFunction('head')
    >>> d.put("fun tail(p) { }")
    raises BadText()
    >>> desk_behind(d.log).program == d.program, desk_behind(()).version, desk_behind(d.log).log == d.log
    (True, 0, True)
    >>> desk_behind((("put", good), ("drop", "turn")))
    raises BadLog(1)
    >>> desk_behind((("undo",),))
    raises BadLog(0)
"""

PLAIN = "fun %s(p) head empty foot empty { }"
LOOP = "fun loop(p) var a head empty foot empty { a = p; while any { while a = p keep a = p { } } free(nil); }"
CALLS = "fun calls(p) head empty foot empty { result = other(p); }"
ODD = NO_TUPLES + [BadText(), Open("f", (0,)), HeldError(), Desk(), (), ((),), [1], {"f": ()}, "f", ("f",), -1, True,
                   "fun", (True,)]


class PlainDesk:
    """A desk by the words of M2: for each version that stands the functions by their names."""

    def __init__(self):
        self.states = [{}]
        self.edits = []
        self.gone = []

    def program(self):
        return tuple(one for _, one in sorted(self.states[-1].items()))

    def edit(self, edit, state):
        if len(self.edits) == 40:
            raise TooManyEdits()
        self.states.append(state)
        self.edits.append(edit)
        self.gone = []
        return len(self.edits)

    def put(self, text):
        one, now = read_function(text), self.states[-1]
        if one[0] not in now and len(now) == 6:
            raise Unfit()
        return self.edit(("put", text), now | {one[0]: one})

    def named(self, name):
        for known, one in self.states[-1].items():
            if type(name) is str and known == name:
                return one
        raise NoFunction(name)

    def drop(self, name):
        self.named(name)
        return self.edit(("drop", name), {known: one for known, one in self.states[-1].items() if known != name})

    def keep(self, name, way, text):
        one = self.named(name)
        if type(way) is not tuple or not all(type(item) is int for item in way) or way not in whiles_of(one):
            raise Unfit()
        saying = None if text is None else read_saying(text)
        if saying and not set(names_in(saying)) <= set(names_of(one)):
            raise Unfit()
        keeps = {known: saying if known == way else keep for known, keep in whiles_of(one).items()}
        return self.edit(("keep", name, way, text), self.states[-1] | {name: rekept(one, keeps)})

    def find(self):
        if program_error(self.program()) is not None:
            raise BadProgram(program_error(self.program()))
        return self.edit(("find",), {one[0]: one for one in found(self.program())})

    def undo(self):
        if not self.edits:
            raise NothingToUndo()
        self.gone.append((self.edits.pop(), self.states.pop()))
        return len(self.edits)

    def redo(self):
        if not self.gone:
            raise NothingToRedo()
        edit, state = self.gone.pop()
        self.edits.append(edit)
        self.states.append(state)
        return len(self.edits)


def outcome(call, *given):
    """What a call tells or raises, in words."""
    try:
        return repr(call(*given))
    except HeldError as error:
        return f"{type(error).__name__} {vars(error)!r}"


class Case(unittest.TestCase):
    def raised(self, kind, kept, call, *given, **named):
        with self.assertRaises(kind) as caught:
            call(*given, **named)
        self.assertEqual((type(caught.exception), repr(vars(caught.exception))), (kind, repr(kept)))
        self.assertIsInstance(caught.exception, HeldError)

    def refused(self, d, kind, kept, call, *given):
        """The call raises this, and changes nothing."""
        before = repr((d.program, d.version, d.log))
        self.raised(kind, kept, call, *given)
        self.assertEqual(repr((d.program, d.version, d.log)), before)

    def desk(self, *texts):
        d = Desk()
        for text in texts:
            d.put(text)
        return d


class Examples(unittest.TestCase):
    def test_examples_as_they_stand_in_the_document(self):
        self.assertEqual(wrong_examples(EXAMPLES), (18, []))


class Edits(Case):
    def test_a_new_desk(self):
        d = Desk()
        self.assertEqual((d.program, d.version, d.log), ((), 0, ()))
        self.raised(NothingToUndo, {}, d.undo)
        self.raised(NothingToRedo, {}, d.redo)
        self.assertEqual(d.at(0), ())
        self.raised(BadProgram, {"error": "form"}, d.check)
        self.raised(BadProgram, {"error": "form"}, d.find)
        self.raised(BadProgram, {"error": "form"}, d.run, None, None, None, None, None)
        self.raised(NoFunction, {"name": "f"}, d.text, "f")
        self.raised(NoFunction, {"name": "f"}, d.drop, "f")
        self.raised(NoFunction, {"name": "f"}, d.keep, "f", None, None)

    def test_put(self):
        d = Desk()
        self.assertEqual(d.put(PLAIN % "g"), 1)
        self.assertEqual(d.put(CALLS), 2)
        self.assertEqual(d.put(PLAIN % "f"), 3)
        self.assertEqual(d.program, tuple(read_function(text) for text in (CALLS, PLAIN % "f", PLAIN % "g")))
        self.assertEqual(d.log, (("put", PLAIN % "g"), ("put", CALLS), ("put", PLAIN % "f")))
        other = "fun f(p, q) head empty foot empty { free(p); }"
        self.assertEqual(d.put(other), 4)
        self.assertEqual(d.program, tuple(read_function(text) for text in (CALLS, other, PLAIN % "g")))
        for text in ODD + ["", "fun", "fun f(p) { }", other + other, other[:-1],
                           "fun f(s) head empty foot empty { free(q); }"]:
            self.refused(d, BadText, {}, d.put, text)

    def test_seven_functions(self):
        d = self.desk(*[PLAIN % name for name in "fedcba"])
        self.assertEqual([one[0] for one in d.program], list("abcdef"))
        self.refused(d, Unfit, {}, d.put, PLAIN % "g")
        self.refused(d, BadText, {}, d.put, (PLAIN % "g")[1:])
        self.assertEqual(d.put(LOOP.replace("loop", "d")), 7)
        self.assertEqual(d.drop("a"), 8)
        self.assertEqual(d.put(PLAIN % "g"), 9)
        self.refused(d, Unfit, {}, d.put, PLAIN % "a")

    def test_drop(self):
        d = self.desk(PLAIN % "f", LOOP, PLAIN % "g")
        self.assertEqual(d.drop("loop"), 4)
        self.assertEqual([one[0] for one in d.program], ["f", "g"])
        for name in ODD + ["loop", "F", "f ", "p"]:
            if name != "f":
                self.refused(d, NoFunction, {"name": name}, d.drop, name)
        self.assertEqual((d.drop("g"), d.drop("f")), (5, 6))
        self.assertEqual(d.program, ())
        self.assertEqual(d.log[3:], (("drop", "loop"), ("drop", "g"), ("drop", "f")))

    def test_keep(self):
        d = self.desk(PLAIN % "f", LOOP)
        self.assertEqual(d.keep("loop", (1,), "p = a\n|empty"), 3)
        self.assertEqual(whiles_of(d.program[1]), {(1,): read_saying("p = a | empty"), (1, 0, 0): read_saying("a = p")})
        self.assertEqual(d.keep("loop", (1, 0, 0), None), 4)
        self.assertEqual(whiles_of(d.program[1]), {(1,): read_saying("p = a | empty"), (1, 0, 0): None})
        self.assertEqual(d.keep("loop", (1,), "result = nil"), 5)
        self.assertEqual(d.log[2:], (("keep", "loop", (1,), "p = a\n|empty"), ("keep", "loop", (1, 0, 0), None),
                                     ("keep", "loop", (1,), "result = nil")))
        self.assertEqual(d.program[0], read_function(PLAIN % "f"))
        self.assertEqual(d.program[1][:6], read_function(LOOP)[:6])

    def test_keep_refused_in_order(self):
        d = self.desk(LOOP)
        for name in ODD + ["f"]:
            self.refused(d, NoFunction, {"name": name}, d.keep, name, (0,), "=")
        for way in ODD + [(0,), (2,), (3,), (1, 0), (1, 0, 1), (True,), (1.0,), [1], (1, False, 0), "1", (-1,), ("1",),
                          1]:
            self.refused(d, Unfit, {}, d.keep, "loop", way, "=")
        for text in ODD + ["=", "a = ", "a = b |", "[", "keep = a"]:
            if text not in ("empty", None):
                self.refused(d, BadText, {}, d.keep, "loop", (1,), text)
        for text in ("b = a", "empty | list(q, nil)", "loop = nil"):
            self.refused(d, Unfit, {}, d.keep, "loop", (1,), text)

    def test_find(self):
        d = self.desk(RIGHT["walkr"], LOOP.replace("free(nil);", ""))
        program = d.program
        self.assertEqual(d.find(), 3)
        self.assertEqual(d.program, found(program))
        self.assertEqual(d.log[2], ("find",))
        self.assertNotIn(None, [keep for one in d.program for keep in whiles_of(one).values()])
        before = d.program
        self.assertEqual(d.find(), 4)
        self.assertEqual(d.program, before)
        self.assertEqual(d.at(2), program)

    def test_find_refused(self):
        d = self.desk(CALLS)
        self.refused(d, BadProgram, {"error": ("call", 0, (0,))}, d.find)
        self.refused(d, BadProgram, {"error": ("call", 0, (0,))}, d.check)
        d = self.desk(SPOILT)
        self.refused(d, Untold, {"name": "spoilt", "way": (4,)}, d.find)
        d.put(MANY)
        self.refused(d, TooMany, {"limit": 64}, d.find)
        d.put(OVER)
        self.refused(d, TooMany, {"limit": 8192}, d.find)

    def test_an_edit_that_changes_nothing_is_an_edit_too(self):
        d = self.desk(LOOP)
        program = d.program
        self.assertEqual(d.put(LOOP), 2)
        self.assertEqual(d.keep("loop", (1,), None), 3)
        self.assertEqual(d.keep("loop", (1, 0, 0), "a=p"), 4)
        self.assertEqual((d.program, d.version, len(d.log)), (program, 4, 4))
        self.assertEqual((d.undo(), d.undo(), d.undo(), d.undo()), (3, 2, 1, 0))

    def test_forty_edits_and_one_more(self):
        d = self.desk(LOOP)
        for many in range(2, 41):
            self.assertEqual(d.keep("loop", (1,), "a = p" if many % 2 else None), many)
        for call, given in ((d.put, (PLAIN % "f",)), (d.put, (LOOP,)), (d.drop, ("loop",)),
                            (d.keep, ("loop", (1,), "empty")), (d.find, ())):
            self.refused(d, TooManyEdits, {}, call, *given)
        self.refused(d, BadText, {}, d.put, "f")
        self.refused(d, NoFunction, {"name": "f"}, d.drop, "f")
        self.refused(d, NoFunction, {"name": "f"}, d.keep, "f", (1,), "=")
        self.refused(d, Unfit, {}, d.keep, "loop", (0,), "=")
        self.refused(d, BadText, {}, d.keep, "loop", (1,), "=")
        self.refused(d, Unfit, {}, d.keep, "loop", (1,), "x = nil")
        self.assertEqual((d.undo(), d.redo(), d.undo(), d.put(PLAIN % "f")), (39, 40, 39, 40))
        self.refused(d, TooManyEdits, {}, d.put, LOOP)
        self.raised(NothingToRedo, {}, d.redo)
        bad = self.desk(CALLS)
        for _ in range(39):
            bad.put(CALLS)
        self.refused(bad, BadProgram, {"error": ("call", 0, (0,))}, bad.find)
        bad = self.desk(*[PLAIN % name for name in "abcdef"], *[PLAIN % "a"] * 34)
        self.refused(bad, Unfit, {}, bad.put, PLAIN % "g")
        self.refused(bad, TooManyEdits, {}, bad.put, PLAIN % "f")


class Versions(Case):
    def test_undo_and_redo_behind_each_edit(self):
        d = self.desk(LOOP)
        programs = [(), d.program]
        for call, given in ((d.put, (PLAIN % "f",)), (d.keep, ("loop", (1,), "a = p")), (d.find, ()),
                            (d.drop, ("loop",)),
                            (d.put, (LOOP,))):
            call(*given)
            programs.append(d.program)
        log = d.log
        for version in range(5, -1, -1):
            self.assertEqual(d.undo(), version)
            self.assertEqual((d.program, d.version, d.log), (programs[version], version, log[:version]))
            self.raised(NoVersion, {"given": version + 1}, d.at, version + 1)
        self.raised(NothingToUndo, {}, d.undo)
        for version in range(1, 7):
            self.assertEqual(d.redo(), version)
            self.assertEqual((d.program, d.version, d.log), (programs[version], version, log[:version]))
            self.assertEqual([d.at(known) for known in range(version + 1)], programs[:version + 1])
        self.raised(NothingToRedo, {}, d.redo)

    def test_an_edit_behind_an_undo_forgets_what_was_taken_back(self):
        d = self.desk(LOOP, PLAIN % "f", PLAIN % "g")
        self.assertEqual((d.undo(), d.undo(), d.put(PLAIN % "h")), (2, 1, 2))
        self.raised(NothingToRedo, {}, d.redo)
        self.assertEqual(d.log, (("put", LOOP), ("put", PLAIN % "h")))
        self.assertEqual((d.undo(), d.put(PLAIN % "h")), (1, 2))
        self.raised(NothingToRedo, {}, d.redo)

    def test_a_refused_edit_forgets_nothing(self):
        d = self.desk(LOOP, PLAIN % "f")
        d.undo()
        self.raised(BadText, {}, d.put, "")
        self.raised(NoFunction, {"name": "f"}, d.drop, "f")
        self.raised(Unfit, {}, d.keep, "loop", (), None)
        self.assertEqual(d.redo(), 2)
        self.assertEqual([one[0] for one in d.program], ["f", "loop"])

    def test_versions_that_are_none(self):
        d = self.desk(LOOP, PLAIN % "f")
        for given in ODD + [3, 4, -1, 10 ** 60, True, False, 1.0, "1", (1,)]:
            if type(given) is int and 0 <= given <= 2:
                self.assertEqual(d.at(given), d.at(given + 0))
            else:
                self.raised(NoVersion, {"given": given}, d.at, given)

    def test_find_is_done_again_with_what_it_had_made(self):
        d = self.desk(LOOP.replace("free(nil);", ""))
        d.find()
        program = d.program
        d.undo()
        self.assertNotEqual(d.program, program)
        d.redo()
        self.assertEqual(d.program, program)
        self.assertEqual(desk_behind(d.log).program, program)


class Asked(Case):
    def test_text(self):
        d = self.desk(LOOP, CALLS)
        self.assertEqual(d.text("loop"), function_text(read_function(LOOP)))
        self.assertEqual(d.text("calls"), function_text(read_function(CALLS)))
        for name in ODD + ["f", "LOOP", "a"]:
            self.raised(NoFunction, {"name": name}, d.text, name)

    def test_check(self):
        for name in ("turn", "second", "all"):
            d = self.desk(*[function_text(one) for one in read_program(RIGHT[name])])
            self.assertIsNone(d.check())
        d = self.desk(RIGHT["turn"].replace(" a = b; } }", " } }"), LOOP.replace("while any", "while any keep empty"))
        self.assertEqual(repr(d.check()), repr(check(d.program)))
        self.assertTrue(goes_wrong(d.program, d.check()))
        d.keep("turn", (1,), None)
        self.raised(Open, {"name": "turn", "way": (1,)}, d.check)
        d.keep("loop", (1,), None)
        self.raised(Open, {"name": "loop", "way": (1,)}, d.check)
        d.put(CALLS)
        self.raised(BadProgram, {"error": ("call", 0, (0,))}, d.check)
        d = self.desk(OVER.replace(" while any { }", ""))
        self.raised(TooMany, {"limit": 8192}, d.check)

    def test_run(self):
        d = self.desk(RIGHT["turn"], PLAIN % "f")
        for args, heap, choices, limit in (((1,), ((1, 2), (2, 0)), (), 100), ((1,), (), (), 10 ** 4),
                                           ((0,), ((7, 7),), (10 ** 399, 0), 0)):
            self.assertEqual(d.run("turn", args, heap, choices, limit),
                             run(d.program, "turn", args, heap, choices, limit))
            named = {"limit": limit, "choices": choices, "heap": heap, "args": args, "name": "turn"}
            self.assertEqual(d.run(**named), run(d.program, "turn", args, heap, choices, limit))

    def test_run_refused_in_order(self):
        d = self.desk(RIGHT["turn"])
        good = {"name": "turn", "args": (1,), "heap": ((1, 0),), "choices": (0, 1), "limit": 50}
        self.assertEqual(d.run(**good)[0], "done")
        for name in ODD + ["f"]:
            self.raised(NoFunction, {"name": name}, d.run, name, None, None, None, None)
        for spot, wrong in (
            ("args", ODD + [(), (1, 2), (True,), (-1,), [1], 1, ("1",), (None,), ((1,),)]),
            ("heap", [(1, 0), ((1, 0), (1, 0)), ((2, 0), (1, 0)), ((0, 0),), ((1, True),), [(1, 0)], ([1, 0],), None,
                      "", {1: 0}, 0, False]),
            ("choices", [None, [0], (True,), (-1,), ("1",), (0, None), 0, {}, "", ((),), (1.0,)]),
            ("limit", [None, -1, 10 ** 4 + 1, 10 ** 399, True, False, "9", (9,), 9.0, [], {}]),
        ):
            for value in wrong:
                self.raised(Unfit, {}, lambda: d.run(**{**good, spot: value}))
        for limit in (0, 1, 10 ** 4):
            self.assertIn(d.run(**{**good, "limit": limit})[0], ("done", "long"))
        d.put(CALLS)
        self.raised(BadProgram, {"error": ("call", 0, (0,))}, d.run, None, None, None, None, None)

    def test_only_read(self):
        d = self.desk(LOOP)
        for word in ("program", "version", "log"):
            self.assertTrue(hasattr(d, word))
            with self.assertRaises(AttributeError):
                setattr(d, word, getattr(d, word))
        self.assertEqual((d.version, len(d.program), len(d.log)), (1, 1, 1))

    def test_what_was_returned_does_not_change(self):
        d = self.desk(LOOP)
        program, log, at = d.program, d.log, d.at(1)
        before = repr((program, log, at))
        d.put(PLAIN % "f")
        d.drop("loop")
        d.undo()
        self.assertEqual(repr((program, log, at)), before)

    def test_two_desks_have_nothing_in_common(self):
        one, other = Desk(), Desk()
        one.put(LOOP)
        self.assertEqual((other.program, other.version, other.log), ((), 0, ()))
        other.put(PLAIN % "f")
        one.undo()
        self.raised(NothingToRedo, {}, other.redo)
        self.assertEqual((one.version, other.version), (0, 1))
        self.assertEqual(one.redo(), 1)
        self.assertEqual([row[0] for row in one.program + other.program], ["loop", "f"])


class BesideThePlainWords(Case):
    TEXTS = [LOOP, LOOP.replace("free(nil);", ""), CALLS, SPOILT, PLAIN % "other", "fun", "", RIGHT["turn"],
             RIGHT["walk"]] + [
        PLAIN % name for name in "fghij"]

    def test_edits_at_random(self):
        source = random.Random(131)
        for _ in range(60):
            d, plain = Desk(), PlainDesk()
            for _ in range(source.choice((12, 25, 70))):
                word, given = self.any_edit(source)
                self.assertEqual(outcome(getattr(d, word), *given), outcome(getattr(plain, word), *given))
                self.assertEqual(repr((d.program, d.version, d.log)),
                                 repr((plain.program(), len(plain.edits), tuple(plain.edits))))
            for version, state in enumerate(plain.states):
                self.assertEqual(d.at(version), tuple(one for _, one in sorted(state.items())))
            behind = desk_behind(d.log)
            self.assertEqual((behind.program, behind.version, behind.log), (d.program, d.version, d.log))
            self.assertEqual([behind.at(version) for version in range(d.version + 1)],
                             [d.at(version) for version in range(d.version + 1)])
            self.raised(NothingToRedo, {}, behind.redo)

    def any_edit(self, source):
        word = source.choice(("put", "put", "put", "drop", "keep", "keep", "find", "undo", "redo"))
        if word == "put":
            return word, (source.choice(self.TEXTS),)
        name = source.choice(("loop", "loop", "turn", "walk", "f", "calls", "spoilt", "g", None))
        if word == "drop":
            return word, (name,)
        if word == "keep":
            way = source.choice(((1,), (1,), (1, 0, 0), (0,), (4,), (), None))
            return word, (name, way, source.choice(("a = p", "empty", None, "list(a, nil) | p = a", "b = nil", "=", 7)))
        return word, ()


class Logs(Case):
    def test_items_turned_left_out_and_told_twice(self):
        log = (("put", LOOP), ("keep", "loop", (1,), "empty"), ("put", PLAIN % "f"), ("drop", "loop"), ("find",),
               ("drop", "f"))
        self.assertEqual(desk_behind(log).log, log)
        self.assertEqual(desk_behind(log).program, ())
        for other, place in ((log[1:], 0), (log[:1] + log[2:3] + log[3:4] + log[1:], 3), (log + log[-1:], 6),
                             (log + log[4:5], 6),
                             ((log[4],), 0), (log[:4] + log[3:], 4), (log[:3] + (log[5], log[4], log[3]), None)):
            if place is None:
                self.assertEqual(desk_behind(other).version, 6)
            else:
                self.raised(BadLog, {"place": place}, desk_behind, other)

    def test_items_that_are_none(self):
        good = ("put", PLAIN % "f")
        for item in ODD + [list(good), good + (1,), good[:1], ("undo",), ("redo",), ("at", 0), ("find", None),
                           ("keep", "f", (0,)),
                           ("drop",), ("drop", "f", "g"), ("Put", good[1]), (True,), ("put", None), ("check",),
                           ("text", "f"), ("find", ())]:
            self.raised(BadLog, {"place": 1}, desk_behind, (good, item))
            self.raised(BadLog, {"place": 0}, desk_behind, (item, good))
            self.raised(BadLog, {"place": 2}, desk_behind, (good, ("find",), item, None))

    def test_what_is_no_tuple(self):
        for log in (None, [], [("find",)], {}, "", "put", 0, True, ("put", LOOP)[0], Desk(), BadLog(3)):
            self.raised(BadLog, {"place": 0}, desk_behind, log)
        self.raised(BadLog, {"place": 0}, desk_behind, ("put", LOOP))
        self.assertEqual(desk_behind(()).version, 0)

    def test_forty_one_edits(self):
        log = (("put", LOOP),) * 41
        self.raised(BadLog, {"place": 40}, desk_behind, log)
        self.raised(BadLog, {"place": 40}, desk_behind, log + log)
        self.assertEqual(desk_behind(log[:40]).version, 40)

    def test_a_new_desk_each_time(self):
        log = (("put", LOOP), ("find",))
        one, other = desk_behind(log), desk_behind(log=log)
        one.drop("loop")
        self.assertEqual((one.version, other.version), (3, 2))
        self.assertEqual(len(other.program), 1)

    def test_logs_of_odd_values_are_not_changed(self):
        log = (("keep", ["loop"], [1], {"a": [()]}),)
        before = copy.deepcopy(log)
        self.raised(BadLog, {"place": 0}, desk_behind, log)
        self.assertEqual(log, before)


class ByName(Case):
    def test_by_name(self):
        d = Desk()
        self.assertEqual(d.put(text=LOOP), 1)
        self.assertEqual(d.keep(text="a = p", way=(1,), name="loop"), 2)
        self.assertEqual(d.at(version=1), desk_behind(log=d.log[:1]).program)
        self.assertEqual(d.text(name="loop"), d.text("loop"))
        self.assertEqual(d.drop(name="loop"), 3)
        self.raised(NoFunction, {"name": 7}, d.text, name=7)
        self.raised(NoVersion, {"given": None}, d.at, version=None)


if __name__ == "__main__":
    unittest.main()
