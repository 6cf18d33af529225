"""All functions together: equal calls tell equal things, whatever was called in between, as A3 tells."""

import copy
import random
import unittest

from heldapart.calls import called, rest_of
from heldapart.cases import case_tells, cases_of, laid_out
from heldapart.checking import check, cuts, let_by, stretch_ends
from heldapart.code import code_of, row_ways, run_code
from heldapart.desks import Desk, desk_behind
from heldapart.errors import HeldError
from heldapart.finding import clause_of, folded, found
from heldapart.judging import goes_wrong, replay
from heldapart.laying import follows, is_laid, parting
from heldapart.programs import names_of, program_error, statement_at, ways_of
from heldapart.programtexts import function_text, program_text, read_function, read_program
from heldapart.running import run
from heldapart.sayings import names_in, saying_error
from heldapart.sayingtexts import read_saying, saying_text
from heldapart.shells import Shell
from heldapart.steps import looked, opened, step
from heldapart.stores import heap_error, holds, lost, part_of, store_error
from known import MANY as MANY_CLAUSES
from known import OVER, SPOILT, changed, without_keeps
from test_package import INTERFACE

CHAIN = (((), (("list", "x", "nil"),)),)
TWO = (((), (("list", "x", "y"), ("list", "y", "nil"))),)
STORE, HEAP = (("x", 1), ("y", 3)), ((1, 3), (3, 0))
CASE = (((), ("x",), ("y",)), ((1, "long", 2), (2, "long", 0)))
TURN = ("fun turn(p) with s var a, b head list(p, nil) foot list(result, nil) "
        "{ a = p; while a != nil keep empty { b = [a]; [a] = result; result = a; a = b; } }")
FUNCTION = read_function(TURN)
MANY = (((), (("list", "a", "nil"),)), ((), (("list", "b", "nil"),)))
SIX = ("a", "b", "c", "d", "e", "f")
NAMELESS = (((), ("x",), ("y",), ()), ((1, "short", 3), (3, "long", 2)))
CALL = ("call", "x", "turn", ("x",), ("nil",))
WRONG = changed("join", " [a] = y;", "")
PAPER = check(WRONG)
DOES = ("program", "name", "args", "heap", "choices", "limit")
LOG = (("put", TURN.replace("keep empty ", "")), ("find",), ("keep", "turn", (1,), None))


def desk_told(log):
    """What a desk with this log tells, and then raises."""
    desk = desk_behind(log)
    desk.undo()
    return desk.program, desk.version, desk.log, desk.at(1), desk.text("turn"), desk.redo(), desk.check()


def desk_run(name, args, heap, choices, limit):
    desk = Desk()
    desk.put(TURN)
    return desk.run(name, args, heap, choices, limit)


def shell_told(lines):
    shell = Shell()
    return [shell.say(line) for line in lines]


CALLS = [
    (saying_error, ("value",), (TWO,)), (saying_error, ("value",), ((None,),)), (names_in, ("saying",), (TWO,)),
    (saying_text, ("saying",), (TWO + CHAIN,)), (read_saying, ("value",), ("x = y|empty",)),
    (read_saying, ("value",), ("x == y",)), (store_error, ("value",), (STORE,)), (heap_error, ("value",), ([HEAP],)),
    (heap_error, ("value",), (HEAP[::-1],)), (holds, ("saying", "store", "heap"), (CHAIN, STORE, HEAP)),
    (holds, ("saying", "store", "heap"), (CHAIN, STORE, HEAP[1:])),
    (part_of, ("clause", "store", "heap"), (TWO[0], STORE, HEAP)), (lost, ("store", "heap"), (STORE[1:], HEAP)),
    (cases_of, ("names", "saying"), (("x", "y"), CHAIN)), (cases_of, ("names", "saying"), (SIX, MANY)),
    (case_tells, ("names", "case", "store", "heap"), (("x", "y"), CASE, STORE, HEAP)),
    (laid_out, ("names", "case"), (("x", "y"), CASE)), (is_laid, ("case", "clause"), (CASE, TWO[0])),
    (follows, ("names", "left", "right"), (("x", "y"), TWO, CHAIN)),
    (parting, ("names", "left", "right"), (("x", "y"), CHAIN, TWO)),
    (parting, ("names", "left", "right"), (SIX, MANY, MANY)), (program_error, ("value",), ((FUNCTION,),)),
    (program_error, ("value",), ((FUNCTION, FUNCTION),)), (names_of, ("function",), (FUNCTION,)),
    (ways_of, ("function",), (FUNCTION,)), (statement_at, ("function", "way"), (FUNCTION, (1, 0, 2))),
    (statement_at, ("function", "way"), (FUNCTION, (1, 1, 2))), (function_text, ("function",), (FUNCTION,)),
    (program_text, ("program",), ((FUNCTION,),)), (read_function, ("value",), (TURN,)),
    (read_program, ("value",), (TURN,)), (read_program, ("value",), (TURN * 2,)), (read_function, ("value",), ([TURN],)),
    (run, ("program", "name", "args", "heap", "choices", "limit"), ((FUNCTION,), "turn", (1,), HEAP, (1,), 50)),
    (run, ("program", "name", "args", "heap", "choices", "limit"), ((FUNCTION,), "turn", (2,), HEAP, (), 50)),
    (run, ("program", "name", "args", "heap", "choices", "limit"), ((FUNCTION,), "turn", (1,), HEAP, (), 5)),
    (run, ("program", "name", "args", "heap", "choices", "limit"), ((FUNCTION,), "x", (), (), (), 0)),
    (code_of, ("function",), (FUNCTION,)), (row_ways, ("function",), (FUNCTION,)),
    (run_code, DOES, ((FUNCTION,), "turn", (1,), HEAP, (1,), 50)), (run_code, DOES, ((FUNCTION,), "x", (), (), (), 0)),
    (opened, ("names", "case", "begin"), (("x", "y"), CASE, 1)), (opened, ("names", "case", "begin"), (("x", "y"), CASE, 0)),
    (looked, ("case", "look"), (CASE, ("is", "x", "y"))),
    (step, ("names", "case", "statement"), (("x", "y"), CASE, ("get", "x", "y"))),
    (step, ("names", "case", "statement"), (("x", "y"), CASE, ("new", "y", "x"))),
    (rest_of, ("case", "clause"), (CASE, TWO[0])), (rest_of, ("case", "clause"), (CASE, ((), (("cell", "x", "y"),)))),
    (called, ("names", "case", "function", "statement"), (("x", "y"), CASE, FUNCTION, CALL)),
    (called, ("names", "case", "function", "statement"), (("x", "y"), NAMELESS, FUNCTION, CALL)),
    (cuts, ("function",), (FUNCTION,)), (stretch_ends, ("program", "name", "way"), ((FUNCTION,), "turn", (1,))),
    (stretch_ends, ("program", "name", "way"), ((FUNCTION,), "x", ())),
    (stretch_ends, ("program", "name", "way"), (without_keeps("turn"), "turn", ())),
    (check, ("program",), (WRONG,)), (check, ("program",), (without_keeps("ring"),)), (let_by, ("program",), (WRONG,)),
    (let_by, ("program",), ((FUNCTION,),)), (goes_wrong, ("program", "value"), (WRONG, PAPER)),
    (goes_wrong, ("program", "value"), (WRONG, PAPER[:4] + ((True,),))), (replay, ("program", "value"), (WRONG, PAPER)),
    (replay, ("program", "value"), (WRONG, list(PAPER))), (folded, ("names", "case"), (("x", "y"), NAMELESS)),
    (clause_of, ("names", "case"), (("x", "y"), CASE)), (clause_of, ("names", "case"), (("x", "y"), NAMELESS)),
    (found, ("program",), (without_keeps("join"),)), (found, ("program",), (read_program(SPOILT),)),
    (found, ("program",), (read_program(MANY_CLAUSES),)), (found, ("program",), (read_program(OVER),)),
    (desk_told, ("log",), (LOG,)), (desk_told, ("log",), (LOG[:2],)), (desk_behind, ("log",), (LOG + (("find", 1),),)),
    (desk_run, DOES[1:], ("turn", (1,), HEAP, (), 50)), (desk_run, DOES[1:], ("turn", (True,), HEAP, (), 50)),
    (shell_told, ("lines",), (["put " + TURN, "check", "ends turn 1", "unkeep turn 1", "find", "check", "cuts turn", 7],)),
]


def told(function, given, named):
    """What a call tells, in words: True is not 1 here."""
    try:
        return repr(function(**given) if named else function(*given.values()))
    except HeldError as error:
        return f"{type(error).__name__} {vars(error)}"


class Together(unittest.TestCase):
    def test_equal_calls_tell_equal_things_in_all_orders(self):
        source = random.Random(61)
        rows = [(function, dict(zip(names, values))) for function, names, values in CALLS]
        before = repr(rows)
        first = [told(function, given, False) for function, given in rows]
        for _ in range(6):
            order = list(range(len(rows))) * 2
            source.shuffle(order)
            for at in order:
                function, given = rows[at]
                self.assertEqual(told(function, given, source.randint(0, 1)), first[at], (function, given))
                self.assertEqual(told(function, copy.deepcopy(given), True), first[at], (function, given))
        self.assertEqual(repr(rows), before)

    def test_each_function_is_called(self):
        listed = [name for file, names in INTERFACE.items() for name in names if file != "errors.py"]
        met = {function.__name__ for function, _, _ in CALLS} | {"Desk", "Shell"}
        self.assertEqual(sorted(met), sorted(listed + ["desk_told", "desk_run", "shell_told"]))


if __name__ == "__main__":
    unittest.main()
