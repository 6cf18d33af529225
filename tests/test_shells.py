"""Shells: Shell, as A3 and M4 to M6 tell of it."""

import random
import unittest

from examples import wrong_examples
from heldapart.bounds import MAX_EDITS
from heldapart.checking import check, cuts, stretch_ends
from heldapart.code import code_of
from heldapart.desks import Desk
from heldapart.errors import BadText, HeldError, Open
from heldapart.judging import goes_wrong, replay
from heldapart.programs import names_of
from heldapart.programtexts import function_text, read_function, read_program
from heldapart.running import run
from heldapart.sayings import names_in
from heldapart.sayingtexts import read_saying, saying_text
from heldapart.shells import Shell
from heldapart.laying import parting
from heldapart.stores import holds
from known import MANY, OVER, RIGHT, SPOILT, WRONG, changed, small_program
from making import NO_TUPLES

EXAMPLES = r"""
    >>> tail = "fun tail(p) head list(p, nil) foot list(result, nil) { result = [p]; free(p); }"
    >>> good = "fun tail(p) head p != nil * list(p, nil) foot list(result, nil) { result = [p]; free(p); }"
    >>> from heldapart.shells import Shell
    >>> s = Shell()
    >>> [s.say("names"), s.say("put " + tail), s.say("check"), s.say("judge tail begin p:0,result:0 none none"), s.say("replay tail begin p:0,result:0 none none"), s.say("judge tail begin p:1,result:0 1:0 none")]
    ['none', 'version 1', 'wrong tail begin p:0,result:0 none none', 'yes', 'fault 0 1', 'no']
    >>> [s.say("put " + good), s.say("check"), s.say("run tail 4 4:6,6:0 none 9"), s.say("code tail 0 none none 9"), s.say("run tail 4 4:6,6:0 none 1"), s.say("names"), s.say("cuts tail"), s.say("show tail")[:11]]
    ['version 2', 'let by', 'done 6 6:0 2', 'fault tail 0 none 1', 'long', 'tail', 'begin', 'fun tail(p)']
    >>> [s.say("follows list(x, y) * list(y, nil) => list(x, nil)"), s.say("follows x != z * cell(x, z) => list(x, z)"), s.say("follows cell(x, x) => empty"), s.say("holds x:8,y:3 3:5,5:0,8:3 cell(x, y) * list(y, nil)"), s.say("holds x:8 8:0 cell(x, y)")]
    ['yes', 'yes', 'no x:1 1:1', 'yes', 'error Unfit']
    >>> [s.say("drop turn"), s.say("put fun tail"), s.say("redo"), s.say("keep tail 0 empty"), s.say("keep tail 0.1 x ="), s.say("run tail 4 4:6 none"), s.say("run tail 04 none none 9"), s.say("drop"), s.say(7)]
    ['error NoFunction', 'error BadText', 'error NothingToRedo', 'error Unfit', 'error Unfit', 'what', 'what', 'what', 'what']
"""

PLAIN = "fun %s(p) head empty foot empty { }"
LOOP = "fun loop(p) var a head empty foot empty { a = p; while any { while a = p keep a = p { } } }"
CALLS = "fun calls(p) head empty foot empty { result = other(p); }"
TAIL = "fun tail(p) head list(p, nil) foot list(result, nil) { result = [p]; free(p); }"
SIXTY = "1" + "0" * 59
# What is no NUMBER, wherever one may stand.
NO_NUMBERS = ["", "00", "01", "-1", "+1", "1 ", " 1", "x", "1x", "1_0", "1.0", "0x1", "1" * 61, "0" * 61, "\n1", "1\n",
              "None", "True", "1:"]
NO_WAYS = NO_NUMBERS[:5] + ["1..0", ".", "0.", ".0", "0.01", "0,1", "Begin", "begin.0", "0.begin", "()", "none", "end",
                            "1.0.-1", "0." + "1" * 61]
NO_HEAPS = ["", "1", "1:", ":1", "1:2,", ",1:2", "1:2,,3:4", "1:2;3:4", "01:2", "1:02", "0:1", "2:0,1:0", "1:0,1:0",
            "1:2:3", "None", "1:-1",
            "x:1", "1:x", "1:2,3", "begin", "none,1:2", "1:" + "1" * 61, "1" * 61 + ":1", "\n", "1:2\n", "(1:2)", "no"]
NO_STORES = ["", "x", "x:", ":1", "x:1,", ",x:1", "x:1,x:2", "y:1,x:2", "x:01", "x:-1", "X:1", "nil:0", "x1:1",
             "cell:1", "abcdefghi:1", "x:1:2",
             "x=1", "None", "1:1", "x:1;y:2", "x:1\n", "\nx:1", "x:" + "1" * 61, "none,x:1", "xy", "new:1"]
NO_NUMBER_ROWS = ["", "1,", ",1", "1,,2", "01", "1;2", "-1", "None", "1 ", "x", "1:2", "none,1", "1,none", "1" * 61,
                  "1,02"]
NO_ANSWERS = ["", "any", "any:", "any:maybe", "any:True", "any:1", "Any:yes", "new", "new:", "new:01", "new:-1",
              "new:x", "new:1:2", "call:1", "call:1/",
              "call:/none", "call:01/none", "call:1/0:1", "call:1/2:0,1:0", "call:1/1:0,1:0", "call:1/x", "call",
              "call:", "call:1/none/none",
              "any:yes;", ";any:yes", "any:yes,any:no", "any:yes;;any:no", "none;any:yes", "none:yes", "put:1",
              "call:1/none;", "\n", "any:yes\n",
              "new:" + "1" * 61, "call:1/1:" + "1" * 61, "free:1", "put:1/none", "free:1/none", ":1/none", "Call:1/none", "yes", "call:x/none"]


def shell(*texts):
    s = Shell()
    for text in texts:
        assert s.say("put " + text).startswith("version"), text
    return s


def plain_way(way):
    return ".".join(str(at) for at in way) or "begin"


def plain_rows(rows):
    return ",".join(f"{one}:{other}" for one, other in rows) or "none"


def plain_answer(answer):
    if answer[0] == "any":
        return "any:yes" if answer[1] else "any:no"
    return f"new:{answer[1]}" if answer[0] == "new" else f"call:{answer[1]}/{plain_rows(answer[2])}"


def plain_paper(paper):
    name, way, store, heap, answers = paper
    return " ".join([name, plain_way(way), plain_rows(store), plain_rows(heap),
                     ";".join(map(plain_answer, answers)) or "none"])


class Case(unittest.TestCase):
    def says(self, s, *rows):
        """Each line gets this answer."""
        for line, meant in rows:
            got = s.say(line)
            self.assertIs(type(got), str)
            self.assertEqual(got, meant, line)

    def all_say(self, s, meant, *lines):
        self.says(s, *[(line, meant) for line in lines])


class Examples(unittest.TestCase):
    def test_examples_as_they_stand_in_the_document(self):
        self.assertEqual(wrong_examples(EXAMPLES), (8, []))


class Lines(Case):
    def test_what_is_no_string(self):
        s = shell(TAIL)
        for value in NO_TUPLES + [7, b"names", ["names"], ("names",), {"names": 1}, BadText(), Open("f", ()), Shell(),
                                  Desk()]:
            if not isinstance(value, str):
                self.assertEqual(s.say(value), "what")
        self.all_say(s, "what", "", " ", "\n", "x", "form", "what", "names ", " names", "names\n", "\nnames", "Names",
                     "NAMES", "x" * 20000,
                     " " * 20000, "version", "error", "at 0", "log", "program", "%s", "{}", "say names")

    def test_words_without_texts(self):
        s = shell(TAIL)
        for word in ("find", "undo", "redo", "names", "check"):
            self.all_say(s, "what", word + " ", " " + word, word + " x", word + "\n", word.upper(), word + "  ")
        self.says(s, ("names", "tail"), ("redo", "error NothingToRedo"), ("find", "version 2"), ("undo", "version 1"),
                  ("redo", "version 2"))

    def test_words_with_a_name(self):
        s = shell(TAIL)
        for word in ("drop", "show", "rows", "cuts"):
            self.all_say(s, "what", word, word + " ", word + "  ", word + " tail ", word + "  tail",
                         word + " tail tail", word + " a b")
            self.all_say(s, "error NoFunction", word + " x", word + " TAIL", word + " tail\n", word + " \n",
                         word + " 7", word + " tail,", word + " {}")
        for word in ("unkeep", "ends"):
            self.all_say(s, "what", word, word + " ", word + " tail", word + " tail ", word + " tail  begin",
                         word + "  tail begin",
                         word + " tail begin ", word + " tail begin x", word + " begin",
                         *[word + " tail " + way for way in NO_WAYS])
            self.all_say(s, "what", *[word + " x " + way for way in NO_WAYS])
            self.all_say(s, "error NoFunction", word + " x begin", word + " x 0", word + " x 4.0.1",
                         word + " tail\n 0", word + " \n begin")
        self.says(s, ("unkeep tail begin", "error Unfit"), ("unkeep tail 0", "error Unfit"),
                  ("ends tail 0", "error Unfit"), ("rows tail", "3"))

    def test_put(self):
        s = Shell()
        self.all_say(s, "what", "put", " put " + TAIL, "put\n" + TAIL, "Put " + TAIL)
        self.all_say(s, "error BadText", "put ", "put  ", "put \n", "put x", "put fun tail", "put " + TAIL + TAIL,
                     "put " + TAIL + ";", "put put " + TAIL)
        self.says(s, ("put " + TAIL, "version 1"), ("put  \n" + TAIL.replace(" ", "  \n ") + "\n ", "version 2"),
                  ("put " + TAIL.replace("; ", ";").replace(", ", ","), "version 3"))
        self.assertEqual(s.say("show tail"), function_text(read_function(TAIL)))
        for at, name in enumerate(("a", "b", "c", "d", "e")):
            self.says(s, ("put " + PLAIN % name, f"version {at + 4}"))
        self.says(s, ("put " + PLAIN % "f", "error Unfit"), ("names", "a b c d e tail"))

    def test_edits_beside_a_desk(self):
        s, d = Shell(), Desk()
        source = random.Random(141)
        texts = [TAIL, LOOP, CALLS, SPOILT, MANY, PLAIN % "other", "fun", RIGHT["turn"], RIGHT["joinr"]]
        for _ in range(300):
            word = source.choice(("put", "put", "drop", "keep", "keep", "unkeep", "find", "undo", "redo"))
            name = source.choice(("loop", "loop", "tail", "turn", "many", "x"))
            way = source.choice(((1,), (1,), (1, 0, 0), (0,), ()))
            text = source.choice(("a = p", "empty", "", " \nempty | a = nil", "q = nil", "="))
            if word == "put":
                text = source.choice(texts)
            line, call, given = {
                "put": ("put " + text, d.put, (text,)), "drop": ("drop " + name, d.drop, (name,)),
                "keep": (f"keep {name} {plain_way(way)} {text}", d.keep, (name, way, text)),
                "unkeep": (f"unkeep {name} {plain_way(way)}", d.keep, (name, way, None)),
                "find": ("find", d.find, ()), "undo": ("undo", d.undo, ()), "redo": ("redo", d.redo, ()),
            }[word]
            try:
                meant = f"version {call(*given)}"
            except HeldError as error:
                meant = "error " + type(error).__name__
            self.says(s, (line, meant), ("names", " ".join(one[0] for one in d.program) or "none"))
            for one in d.program:
                self.says(s, ("show " + one[0], d.text(one[0])), ("rows " + one[0], str(len(code_of(one)))),
                          ("cuts " + one[0], " ".join(plain_way(cut) for cut in cuts(one))))

    def test_keep(self):
        s = shell(LOOP)
        self.all_say(s, "what", "keep", "keep ", "keep loop", "keep loop ", "keep loop 1", "keep loop  1 empty",
                     "keep  loop 1 empty", "keep loop 1\nempty",
                     *[f"keep loop {way} empty" for way in NO_WAYS], *[f"keep x {way} =" for way in NO_WAYS])
        self.all_say(s, "error NoFunction", "keep x 1 empty", "keep x 1 ", "keep x begin =", "keep loop\n 1 empty")
        self.all_say(s, "error Unfit", "keep loop begin empty", "keep loop begin ", "keep loop 0 empty",
                     "keep loop 1.0 empty", "keep loop 2 =",
                     "keep loop 1 q = nil", "keep loop 1.0.0 empty | list(loop, nil)", "keep loop " + SIXTY + " empty")
        self.all_say(s, "error BadText", "keep loop 1 ", "keep loop 1  ", "keep loop 1 =", "keep loop 1 \n",
                     "keep loop 1.0.0 a = ", "keep loop 1 None")
        self.says(s, ("keep loop 1 empty", "version 2"), ("keep loop 1   a=p \n| empty ", "version 3"),
                  ("keep loop 1.0.0 list(p,a)", "version 4"),
                  ("unkeep loop 1", "version 5"))
        self.assertIn("while any {", s.say("show loop"))
        self.assertIn("while a = p keep list(p, a) {", s.say("show loop"))
        self.says(s, ("undo", "version 4"))
        self.assertIn("while any keep a = p | empty {", s.say("show loop"))

    def test_too_many_edits(self):
        s = shell(*[LOOP] * MAX_EDITS)
        self.all_say(s, "error TooManyEdits", "put " + LOOP, "drop loop", "keep loop 1 empty", "unkeep loop 1", "find")
        self.says(s, ("undo", "version 39"), ("redo", "version 40"), ("redo", "error NothingToRedo"))
        self.says(Shell(), ("undo", "error NothingToUndo"), ("redo", "error NothingToRedo"))

    def test_names_rows_cuts_and_show_ask_no_program(self):
        s = shell(CALLS, LOOP)
        self.says(s, ("names", "calls loop"), ("rows calls", "2"), ("cuts calls", "begin"), ("rows loop", "6"),
                  ("cuts loop", "begin 1 1.0.0"),
                  ("show calls", function_text(read_function(CALLS))))
        self.all_say(s, "error BadProgram", "check", "find", "ends x begin", "ends loop 7", "ends loop begin",
                     "judge x begin none none none",
                     "replay x begin none none none", "run x none none none 1", "code x none none none 1",
                     "run loop none none none 1")


class Checking(Case):
    def test_no_program_at_first(self):
        self.all_say(Shell(), "error BadProgram", "check", "find", "ends x begin", "judge x begin none none none",
                     "replay x begin none none none",
                     "run x none none none 1", "code x none none none 1")

    def test_check(self):
        for row in WRONG:
            program = changed(*row)
            s = shell(*[function_text(one) for one in program])
            ordered = tuple(sorted(program))
            paper = check(ordered)
            self.says(s, ("check", "wrong " + plain_paper(paper)), ("judge " + plain_paper(paper), "yes"))
            verdict, where, rows = replay(ordered, paper)
            self.says(s, ("replay " + plain_paper(paper),
                          f"{verdict} {plain_way(where) if where else 'end'} {len(rows)}"))
        for name in RIGHT:
            s = shell(*[function_text(one) for one in read_program(RIGHT[name])])
            self.says(s, ("check", "let by"))
        self.says(shell(LOOP), ("check", "error Open"), ("ends loop begin", "error Open"), ("find", "version 2"),
                  ("check", "let by"))
        self.says(shell(OVER), ("find", "error TooMany"), ("check", "error Open"), ("unkeep over 0", "version 2"),
                  ("find", "version 3"))
        self.says(shell(OVER.replace(" while any { }", "")), ("check", "error TooMany"),
                  ("ends over 0", "error TooMany"),
                  ("ends over begin", "kept:3 unkept:2"))
        self.says(shell(SPOILT), ("find", "error Untold"))
        self.says(shell(MANY), ("find", "error TooMany"))

    def test_papers_with_all_answers(self):
        source = random.Random(142)
        met = set()
        for _ in range(300):
            program = tuple(sorted(small_program(source)))
            s = shell(*[function_text(one) for one in program])
            try:
                paper = check(program)
            except HeldError as error:
                self.says(s, ("check", "error " + type(error).__name__))
                continue
            self.says(s, ("check", "let by" if paper is None else "wrong " + plain_paper(paper)))
            if paper is not None:
                met.update(answer[0] for answer in paper[4])
                verdict, where, rows = replay(program, paper)
                self.says(s, ("judge " + plain_paper(paper), "yes"),
                          ("replay " + plain_paper(paper),
                           f"{verdict} {plain_way(where) if where else 'end'} {len(rows)}"))
                less = paper[:4] + (paper[4] + (("any", True),),)
                self.says(s, ("judge " + plain_paper(less), "no"), ("replay " + plain_paper(less), "error Unfit"))
        self.assertEqual(met, {"any", "new", "call"})

    def test_ends(self):
        source = random.Random(143)
        for program in [read_program(text) for text in RIGHT.values()] + [small_program(source) for _ in range(150)]:
            program = tuple(sorted(program))
            s = shell(*[function_text(one) for one in program])
            for one in program:
                for way in cuts(one):
                    try:
                        ends = [verdict for _, verdict, _ in stretch_ends(program, one[0], way)]
                    except HeldError as error:
                        self.says(s, (f"ends {one[0]} {plain_way(way)}", "error " + type(error).__name__))
                        continue
                    words = [word for word in ("kept", "unkept", "fault", "lost", "head") if word in ends]
                    meant = [f"{word}:{ends.count(word)}" for word in words]
                    self.says(s, (f"ends {one[0]} {plain_way(way)}", " ".join(meant) or "none"))
        s = shell(TAIL, RIGHT["turn"], "fun none(p) head p != p foot empty { free(nil); }")
        self.says(s, ("ends tail begin", "kept:2 fault:1"), ("ends turn 1", s.say("ends turn 1")),
                  ("ends none begin", "none"),
                  ("ends tail 0", "error Unfit"), ("ends turn 1.0.0", "error Unfit"), ("ends x 0", "error NoFunction"),
                  ("ends turn 2", "error Unfit"))
        all_of = shell("fun f(p) with s head list(p, nil) foot empty { if any { result = [p]; } if any { result = new(p); result = nil; } if any { "
                       "result = f(p; s); } }").say("ends f begin")
        self.assertRegex(all_of, r"\Akept:\d+ unkept:\d+ fault:\d+ lost:\d+\Z")

    def test_judge_and_replay(self):
        s = shell(TAIL, LOOP, CALLS.replace("other", "tail"))
        for word in ("judge", "replay"):
            good = ["tail", "begin", "p:0,result:0", "none", "none"]
            self.all_say(s, "what", word, word + " ", word + " tail", f"{word} {' '.join(good[:4])}",
                         f"{word} {' '.join(good)} ", f"{word} {' '.join(good)} x",
                         f"{word}  {' '.join(good)}", f"{word} {'  '.join(good)}", f"{word} {' '.join(good[1:])}",
                         f"{word}  begin p:0,result:0 none none")
            for spot, texts in ((1, NO_WAYS), (2, NO_STORES), (3, NO_HEAPS), (4, NO_ANSWERS)):
                for text in texts:
                    self.all_say(s, "what", f"{word} {' '.join(good[:spot] + [text] + good[spot + 1:])}")
                    self.all_say(s, "what", f"{word} {' '.join(['x'] + good[1:spot] + [text] + good[spot + 1:])}")
                    self.all_say(Shell(), "what", f"{word} {' '.join(good[:spot] + [text] + good[spot + 1:])}")
        self.says(s, ("judge tail begin p:0,result:0 none none", "yes"),
                  ("replay tail begin p:0,result:0 none none", "fault 0 1"))
        for paper in ("x begin p:0,result:0 none none", "tail 0 p:0,result:0 none none", "tail begin p:0 none none",
                      "tail begin p:0,q:0,result:0 none none",
                      "tail begin none none none", "tail begin p:1,result:0 1:0 none",
                      "tail begin p:0,result:0 1:0 none", "tail begin p:0,result:0 none any:yes",
                      "tail begin p:0,result:0 none new:0", "tail begin p:0,result:0 none call:0/none",
                      "loop 1 a:0,p:0,result:0 none none", "tail begin p:0,result:0 none "
                      "any:no;new:7;call:3/3:0,4:" + SIXTY, "loop 1.0.0 a:0,p:0,result:0 none none"):
            self.says(s, ("judge " + paper, "no"), ("replay " + paper, "error Unfit"))
        self.says(s, ("judge calls begin p:0,result:0 none call:9/9:0", "yes"),
                  ("replay calls begin p:0,result:0 none call:9/9:0", "unkept end 2"),
                  ("judge calls begin p:0,result:0 none call:9/9:1", "no"),
                  ("judge calls begin p:1,result:0 none none", "yes"),
                  ("replay calls begin p:1,result:0 none none", "head 0 1"))

    def test_judge_beside_goes_wrong(self):
        s = shell("fun f(p) head empty foot empty { if any { result = new(p); } else { free(nil); } }")
        program = read_program("fun f(p) head empty foot empty { if any { result = new(p); } else { free(nil); } }")
        for answers in ((), (("any", True),), (("any", False),), (("any", True), ("new", 3)),
                        (("any", True), ("new", 0)), (("any", True), ("new", 3), ("new", 4))):
            paper = ("f", (), (("p", 10 ** 59), ("result", 0)), (), answers)
            self.says(s, ("judge " + plain_paper(paper), "yes" if goes_wrong(program, paper) else "no"))


class Running(Case):
    def test_runs_of_both_kinds(self):
        s = shell(RIGHT["turn"], RIGHT["ahead"], "fun make(p) head empty foot empty { result = new(p); }")
        program = read_program(RIGHT["turn"] + RIGHT["ahead"] + "fun make(p) head empty foot empty { result = new(p); }")
        for name, args, heap, choices, limit in (
            ("turn", (1,), ((1, 2), (2, 5), (5, 0)), (), 100), ("turn", (1,), ((1, 2), (2, 5), (5, 0)), (), 16),
            ("turn", (3,), ((7, 7),), (), 9),
            ("turn", (0,), (), (), 0), ("turn", (0,), (), (1, 2, 3), 10000),
            ("ahead", (4,), ((4, 9), (5, 5)), (0,), 1), ("ahead", (0,), ((4, 9),), (), 1),
            ("make", (int(SIXTY),), (), (int(SIXTY),), 1), ("make", (int("9" * 60),), ((1, 0),), (int("9" * 60),), 1),
        ):
            got = run(program, name, args, heap, choices, limit)
            if got[0] == "done":
                meant = f"done {got[1]} {plain_rows(got[2])} {got[3]}"
            elif got[0] == "fault":
                meant = f"fault {got[1]} {plain_way(got[2])} {plain_rows(got[3])} {got[4]}"
            else:
                meant = "long"
            told = f" {name} {','.join(map(str, args)) or 'none'} {plain_rows(heap)} {','.join(map(str, choices)) or 'none'} {limit}"
            self.says(s, ("run" + told, meant), ("code" + told, meant))
        self.says(s, ("run make 9 1:0 " + "9" * 60 + " 1", "done 1" + "0" * 59 + "1 1:0,1" + "0" * 59 + "1:9 1"))

    def test_refused_and_odd(self):
        s = shell(TAIL)
        for word in ("run", "code"):
            good = ["tail", "4", "4:6,6:0", "none", "9"]
            self.says(s, (f"{word} {' '.join(good)}", "done 6 6:0 2"))
            self.all_say(s, "what", word, word + " ", f"{word} tail", f"{word} {' '.join(good[:4])}",
                         f"{word} {' '.join(good)} ", f"{word} {' '.join(good)} 9",
                         f"{word}  {' '.join(good)}", f"{word} {'  '.join(good)}", f"{word}  4 4:6,6:0 none 9")
            for spot, texts in ((1, NO_NUMBER_ROWS), (2, NO_HEAPS), (3, NO_NUMBER_ROWS),
                                (4, NO_NUMBERS + ["none", "9,9"])):
                for text in texts:
                    self.all_say(s, "what", f"{word} {' '.join(good[:spot] + [text] + good[spot + 1:])}")
                    self.all_say(s, "what", f"{word} {' '.join(['x'] + good[1:spot] + [text] + good[spot + 1:])}")
                    self.all_say(Shell(), "what", f"{word} {' '.join(good[:spot] + [text] + good[spot + 1:])}")
            self.all_say(s, "error NoFunction", f"{word} x 4 none none 9", f"{word} x none none none 10001",
                         f"{word} tail\n 4 none none 9")
            self.all_say(s, "error Unfit", f"{word} tail none none none 9", f"{word} tail 1,2 none none 9",
                         f"{word} tail 1 none none 10001",
                         f"{word} tail 1 none none " + SIXTY)
            self.says(s, (f"{word} tail 1 none none 10000", "fault tail 0 none 1"),
                      (f"{word} tail 0 none 1,2 0", "long"))

    def test_both_machines_say_the_same(self):
        source = random.Random(144)
        for _ in range(150):
            program = small_program(source)
            s = shell(*[function_text(one) for one in program])
            for _ in range(4):
                one = source.choice(program)
                args = ",".join(str(source.randint(0, 4)) for _ in one[1]) or "none"
                heap = ",".join(f"{at}:{source.randint(0, 4)}" for at in (1, 2, 3, 4) if source.randint(0, 2)) or "none"
                rest = f" {one[0]} {args} {heap} {source.choice(('none', '1', '1,0,1,2,3'))} {source.choice((0, 3, 60))}"
                self.assertEqual(s.say("run" + rest), s.say("code" + rest))
                self.assertRegex(s.say("run" + rest), r"\A(done \d+ \S+ \d+|fault [fg] [\d.]+ \S+ \d+|long)\Z")


class Sayings(Case):
    def test_holds(self):
        s = Shell()
        self.says(s, ("holds none none empty", "yes"), ("holds x:3 3:0 list(x, nil)", "yes"),
                  ("holds x:3 none list(x, nil)", "no"), ("holds x:3 3:0   cell(x,\nnil) ", "yes"),
                  ("holds result:0,x:0 none result = x | x != x", "yes"),
                  ("holds a:1,b:2,c:3,d:4,e:5,f:6,g:7,result:8 none g != result", "yes"))
        self.all_say(s, "what", "holds", "holds ", "holds none", "holds none none", "holds  none none empty",
                     "holds none  none empty", "Holds none none empty",
                     *[f"holds {text} none empty" for text in NO_STORES],
                     *[f"holds none {text} empty" for text in NO_HEAPS],
                     *[f"holds {text} none =" for text in NO_STORES],
                     *[f"holds none {text} q = q" for text in NO_HEAPS])
        self.all_say(s, "error BadText", "holds none none ", "holds none none  ", "holds none none =",
                     "holds x:1 none x = ", "holds none none y = y |", "holds x:1 none x=x=x",
                     "holds none none \n")
        self.all_say(s, "error Unfit", "holds none none x = x", "holds x:1 none x = y",
                     "holds x:1,z:1 none empty | list(y, nil)", "holds x:1 none result = nil")
        source = random.Random(145)
        for _ in range(300):
            saying = small_program(source)[0][5]
            store = tuple((name, source.randint(0, 3)) for name in sorted({*names_in(saying), "p", "q"}))
            heap = tuple((at, source.randint(0, 3)) for at in (1, 2, 3) if source.randint(0, 1))
            self.says(s, (f"holds {plain_rows(store)} {plain_rows(heap)} {saying_text(saying)}",
                          "yes" if holds(saying, store, heap) else "no"))

    def test_follows(self):
        s = Shell()
        self.says(s, ("follows empty => empty", "yes"), ("follows empty=>empty", "yes"),
                  ("follows  \nempty\n=>  empty ", "yes"), ("follows x = nil=>list(x, nil)", "yes"),
                  ("follows list(x, nil) => cell(x, nil)", "no x:1 1:2,2:0"),
                  ("follows empty => nil != nil", "no none none"), ("follows x != x => cell(x, x)", "yes"))
        self.all_say(s, "what", "follows", "follows ", "follows empty", "follows empty = > empty",
                     "follows empty = empty", "follows x", "follows  ", "follows\nempty => empty",
                     "follows empty >= empty", "Follows empty => empty")
        self.all_say(s, "error BadText", "follows =>", "follows  => ", "follows => empty", "follows empty =>",
                     "follows empty => empty => empty", "follows = => =",
                     "follows empty => x", "follows x => empty", "follows x ==> empty",
                     "follows a = b * b = c * c = d * d = e * e = f * f = g => x")
        self.all_say(s, "error Unfit", "follows a = b * b = c * c = d => e = f * f = g",
                     "follows a = b * b = c * c = d * d = e * e = f * f = g => empty",
                     "follows empty => a = b * b = c * c = d * d = e * e = f * f = g")
        self.says(s, ("follows a = b * b = c * c = d => e = f", "no a:1,b:1,c:1,d:1,e:2,f:3 none"))
        self.all_say(s, "error TooMany", "follows list(a, nil) | list(b, nil) => c = d * e = f",
                     "follows list(a, nil) | list(b, nil) | c = c => d = e * e = f")
        source = random.Random(146)
        both = [0, 0]
        for _ in range(300):
            left, right = small_program(source)[0][5], small_program(source)[0][5]
            told = parting(tuple(sorted({*names_in(left), *names_in(right)})), left, right)
            meant = "yes" if told is None else f"no {plain_rows(told[0])} {plain_rows(told[1])}"
            both[told is None] += 1
            self.says(s, (f"follows {saying_text(left)} => {saying_text(right)}", meant))
        self.assertGreater(min(both), 20)


class Shells(Case):
    def test_each_has_a_desk_of_its_own(self):
        one, other = Shell(), Shell()
        self.says(one, ("put " + TAIL, "version 1"), ("names", "tail"))
        self.says(other, ("names", "none"), ("undo", "error NothingToUndo"), ("put " + LOOP, "version 1"))
        self.says(one, ("names", "tail"), ("undo", "version 0"), ("redo", "version 1"))
        self.says(other, ("redo", "error NothingToRedo"), ("names", "loop"))

    def test_refused_lines_change_nothing(self):
        s = shell(TAIL)
        for line in ("put x", "drop x", "keep tail 0 empty", "what", "", "run", "find ", "undo x"):
            s.say(line)
        self.says(s, ("names", "tail"), ("undo", "version 0"), ("redo", "version 1"))
        s.say("undo")
        for line in ("put x", "drop x", "find", "names", "check", "holds none none empty"):
            s.say(line)
        self.says(s, ("redo", "version 1"))

    def test_by_name(self):
        s = Shell()
        self.assertEqual([s.say(line="names"), s.say(line=None)], ["none", "what"])

    def test_texts_of_any_kind_tell_something(self):
        source = random.Random(147)
        s = shell(TAIL, LOOP)
        words = ["put", "drop", "keep", "unkeep", "find", "undo", "redo", "names", "show", "rows", "cuts", "check",
                 "ends", "judge", "replay", "run", "code", "holds",
                 "follows"]
        texts = ["tail", "loop", "begin", "0", "1", "1.0.0", "none", "p:0,result:0", "1:0", "any:yes", "9", "empty",
                 "=>", "", "x", "p = nil", "\n", TAIL]
        for _ in range(4000):
            line = " ".join([source.choice(words)] + [source.choice(texts) for _ in range(source.randint(0, 6))])
            self.assertIs(type(s.say(line)), str)
        self.assertEqual(names_of(read_function(TAIL)), ("p", "result"))
        self.assertEqual(read_saying("empty"), (((), ()),))


if __name__ == "__main__":
    unittest.main()
