"""One program throughout: told, found, checked, judged, replayed, run, edited, taken back and done again."""

import random
import unittest

from heldapart.cases import cases_of
from heldapart.checking import check, cuts, let_by, stretch_ends
from heldapart.code import run_code
from heldapart.desks import Desk, desk_behind
from heldapart.finding import found
from heldapart.judging import goes_wrong, replay
from heldapart.programs import program_error
from heldapart.programtexts import program_text, read_function, read_program
from heldapart.running import run
from heldapart.sayingtexts import saying_text
from heldapart.shells import Shell
from heldapart.stores import holds
from plainly import plain_paper, plainly_lost, whiles_of
from shapes import stretched

TEXTS = [
    "fun drop(p) var a, b head list(p, nil) foot result = nil { a = p; while a != nil { b = [a]; free(a); a = b; } }",
    "fun join(p, q) var a, b head list(p, nil) * list(q, nil) foot list(result, nil) { if p = nil { result = q; } else "
    "{ result = p; a = p; b = [a]; while b != nil { a = b; b = [a]; } [a] = q; } }",
    "fun main(p) var a head list(p, nil) foot list(result, nil) { a = p; while any { a = push(a); } "
    "if any { a = turn(a); } else { a = join(a, nil); } if any { a = drop(a); } result = a; }",
    "fun push(p) head list(p, nil) foot result != nil * list(result, nil) { result = new(p); }",
    "fun turn(p) head list(p, nil) foot list(result, nil) { result = turnto(p, nil); }",
    "fun turnto(p, q) var a head list(p, nil) * list(q, nil) foot list(result, nil) "
    "{ if p = nil { result = q; } else { a = [p]; [p] = q; result = turnto(a, p); } }",
]
WRONG = TEXTS[5].replace("[p] = q; ", "")


def plain(rows):
    return ",".join(f"{one}:{other}" for one, other in rows) or "none"


class Whole(unittest.TestCase):
    def desk(self):
        d = Desk()
        for at, text in enumerate(TEXTS):
            self.assertEqual(d.put(text), at + 1)
        self.assertEqual(d.find(), 7)
        return d

    def test_the_program_is_found_right(self):
        d = self.desk()
        program = d.program
        self.assertIsNone(program_error(program))
        self.assertEqual(program, found(read_program(" ".join(TEXTS))))
        self.assertEqual(read_program(program_text(program)), program)
        self.assertIsNone(d.check())
        self.assertTrue(let_by(program))
        for one in program:
            for way in cuts(one):
                self.assertEqual({verdict for _, verdict, _ in stretch_ends(program, one[0], way)}, {"kept"})

    def test_it_runs_well_by_both_machines(self):
        source = random.Random(151)
        program = self.desk().program
        ended = 0
        for _ in range(400):
            one = source.choice(program)
            names = tuple(sorted(one[1] + one[2]))
            own, mine = stretched(source.choice(cases_of(names, one[4])), names, source)
            held = dict(mine)
            free = source.sample([at for at in range(1, 420) if at not in held], 5)
            beside = {at: source.choice([0, 1, *held, *free]) for at in free}
            heap = tuple(sorted((held | beside).items()))
            args = tuple(dict(own)[name] for name in one[1])
            choices = tuple(source.randint(0, 5) for _ in range(20))
            got = run(program, one[0], args, heap, choices, 300)
            self.assertEqual(got, run_code(program, one[0], args, heap, choices, 300))
            self.assertIn(got[0], ("done", "long"))
            if got[0] == "done":
                ended += 1
                self.assertEqual({at: value for at, value in got[2] if at in beside}, beside)
                piece = tuple(cell for cell in got[2] if cell[0] not in beside)
                store = tuple(sorted(own + (("result", got[1]),)))
                self.assertTrue(holds(one[5], store, piece))
                self.assertFalse(plainly_lost(store, dict(piece)))
        self.assertGreater(ended, 300)

    def test_edited_taken_back_and_done_again(self):
        d = self.desk()
        right = d.program
        self.assertEqual(d.put(WRONG), 8)
        paper = d.check()
        self.assertEqual(repr(paper), repr(check(d.program)))
        self.assertTrue(goes_wrong(d.program, paper))
        self.assertFalse(goes_wrong(right, paper))
        self.assertEqual(repr(replay(d.program, paper)), repr(plain_paper(d.program, paper)))
        self.assertEqual(paper[0], "turnto")
        self.assertEqual((d.undo(), d.check(), d.redo()), (7, None, 8))
        self.assertEqual(repr(d.check()), repr(paper))
        self.assertEqual((d.at(7), d.at(6)), (right, read_program(" ".join(TEXTS))))
        behind = desk_behind(d.log)
        self.assertEqual((behind.program, behind.version, behind.log), (d.program, d.version, d.log))
        self.assertEqual([behind.at(version) for version in range(9)], [d.at(version) for version in range(9)])
        self.assertEqual(d.put(TEXTS[5]), 9)
        self.assertEqual(d.program, right)

    def test_keeps_by_hand_and_keeps_found_one_by_one(self):
        d = self.desk()
        right = d.program
        self.assertEqual(d.keep("drop", (1,), "result = nil * list(a, nil)"), 8)
        self.assertIsNone(d.check())
        self.assertEqual(d.keep("drop", (1,), "list(a, nil)"), 9)
        name, way, _, _, _ = d.check()
        self.assertEqual((name, way), ("drop", (1,)))
        self.assertEqual(d.keep("drop", (1,), None), 10)
        self.assertEqual(d.find(), 11)
        self.assertEqual(d.program, right)

    def test_the_same_through_a_shell(self):
        d, s = self.desk(), Shell()
        for at, text in enumerate(TEXTS):
            self.assertEqual(s.say("put " + text), f"version {at + 1}")
        self.assertEqual([s.say("check"), s.say("find"), s.say("check")], ["error Open", "version 7", "let by"])
        self.assertEqual(s.say("names"), "drop join main push turn turnto")
        for one in d.program:
            self.assertEqual(s.say("show " + one[0]), d.text(one[0]))
            self.assertEqual(read_function(s.say("show " + one[0]).replace("\n", "  ")), one)
            for way, keep in whiles_of(one).items():
                self.assertEqual(s.say(f"keep {one[0]} {'.'.join(map(str, way))} {saying_text(keep)}").split()[0],
                                 "version")
        self.assertEqual(s.say("check"), "let by")
        d.put(WRONG)
        self.assertEqual(s.say("put " + WRONG).split()[0], "version")
        name, way, store, heap, _ = d.check()
        self.assertEqual(way, ())
        told = s.say("check")
        self.assertEqual(told.split()[:5], ["wrong", name, "begin", plain(store), plain(heap)])
        self.assertEqual(s.say("judge " + told[len("wrong "):]), "yes")
        verdict, where, rows = replay(d.program, d.check())
        self.assertEqual(s.say("replay " + told[len("wrong "):]),
                         f"{verdict} {'.'.join(map(str, where)) or 'end'} {len(rows)}")
        self.assertEqual((s.say("undo").split()[0], s.say("check"), s.say("redo").split()[0]),
                         ("version", "let by", "version"))
        for line in ("main 1 1:2,2:0 1,0,1,0,1 50", "main 0 none none 99", "turnto 1,3 1:2,2:0,3:0 none 99",
                     "join 1,3 1:2,2:0,3:0 none 3"):
            self.assertEqual(s.say("run " + line), s.say("code " + line))
        self.assertEqual(s.say("run turn 1 1:2,2:5,5:0 none 0"), "long")


if __name__ == "__main__":
    unittest.main()
