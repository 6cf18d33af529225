"""Shells: a desk to which lines are said."""

from heldapart.bounds import MAX_NAMES
from heldapart.checking import cuts, function_named, stretch_ends
from heldapart.code import code_of, run_code
from heldapart.desks import Desk, look_at_program, look_at_run
from heldapart.errors import HeldError, Unfit
from heldapart.judging import goes_wrong, replay
from heldapart.laying import parting
from heldapart.sayings import names_in
from heldapart.sayingtexts import read_saying
from heldapart.shelltexts import (
    NoText, halves_of, pairs_text, paper_text, read_heap, read_name, read_number, read_numbers, read_paper, read_store,
    read_way, way_text,
)
from heldapart.stores import holds

# How many texts stand behind each word.
TEXTS = {
    "put": 1, "drop": 1, "keep": 3, "unkeep": 2, "find": 0, "undo": 0, "redo": 0, "names": 0, "show": 1, "rows": 1,
    "cuts": 1, "check": 0, "ends": 2, "judge": 5, "replay": 5, "run": 5, "code": 5, "holds": 3, "follows": 1,
}
# The last text of these may have blanks, and be empty.
TAILED = ("put", "keep", "holds", "follows")
VERDICTS = ("kept", "unkept", "fault", "lost", "head")


class Shell:
    """A desk of its own, and what it answers to lines."""

    def __init__(self):
        self.desk = Desk()

    def say(self, line):
        """Return the answer to line."""
        try:
            return answer_to(self.desk, line)
        except NoText:
            return "what"
        except HeldError as error:
            return "error " + type(error).__name__


def answer_to(desk, line):
    """Return the answer to line; raise NoText if it is none, or what an error in it raises."""
    if not isinstance(line, str):
        raise NoText()
    word = line.split(" ", 1)[0]
    if word not in ACTIONS:
        raise NoText()
    many = TEXTS[word]
    texts = line.split(" ", many) if word in TAILED else line.split(" ")
    if len(texts) != many + 1:
        raise NoText()
    action = ACTIONS[word]
    return action(desk, texts[1:])


def version_text(version):
    """Return the answer to an edit."""
    return "version " + str(version)


def say_put(desk, texts):
    """Put a function on the desk."""
    return version_text(desk.put(texts[0]))


def say_drop(desk, texts):
    """Drop a function."""
    return version_text(desk.drop(read_name(texts[0])))


def say_keep(desk, texts):
    """Give a while a keep."""
    return version_text(desk.keep(read_name(texts[0]), read_way(texts[1]), texts[2]))


def say_unkeep(desk, texts):
    """Take the keep of a while away."""
    return version_text(desk.keep(read_name(texts[0]), read_way(texts[1]), None))


def say_find(desk, texts):
    """Find keeps."""
    return version_text(desk.find())


def say_undo(desk, texts):
    """Take back an edit."""
    return version_text(desk.undo())


def say_redo(desk, texts):
    """Do an edit again."""
    return version_text(desk.redo())


def say_names(desk, texts):
    """Tell the names of all functions."""
    return " ".join([function[0] for function in desk.program]) if desk.program else "none"


def say_show(desk, texts):
    """Tell the text of a function."""
    return desk.text(read_name(texts[0]))


def say_rows(desk, texts):
    """Tell how many rows a function has."""
    return str(len(code_of(function_named(desk.program, read_name(texts[0])))))


def say_cuts(desk, texts):
    """Tell the cuts of a function."""
    return " ".join([way_text(way) for way in cuts(function_named(desk.program, read_name(texts[0])))])


def say_check(desk, texts):
    """Tell whether the program is let by."""
    paper = desk.check()
    return "let by" if paper is None else "wrong " + paper_text(paper)


def say_ends(desk, texts):
    """Tell how often stretches end in each way."""
    name, way = read_name(texts[0]), read_way(texts[1])
    look_at_program(desk.program)
    if way not in cuts(function_named(desk.program, name)):
        raise Unfit()
    met = [verdict for _, verdict, _ in stretch_ends(desk.program, name, way)]
    told = [verdict + ":" + str(met.count(verdict)) for verdict in VERDICTS if verdict in met]
    return " ".join(told) if told else "none"


def say_judge(desk, texts):
    """Tell whether a paper goes wrong."""
    paper = read_paper(texts)
    look_at_program(desk.program)
    return yes_or_no(goes_wrong(desk.program, paper))


def say_replay(desk, texts):
    """Tell how and where a paper goes wrong."""
    paper = read_paper(texts)
    look_at_program(desk.program)
    verdict, where, rows = replay(desk.program, paper)
    return verdict + " " + (way_text(where) if where else "end") + " " + str(len(rows))


def yes_or_no(holding):
    """Return yes or no."""
    return "yes" if holding else "no"


def read_run(texts):
    """Return what five texts tell of a run."""
    name, args, heap, choices, limit = texts
    return read_name(name), read_numbers(args), read_heap(heap), read_numbers(choices), read_number(limit)


def say_run(desk, texts):
    """Run a function."""
    name, args, heap, choices, limit = read_run(texts)
    return outcome_text(desk.run(name, args, heap, choices, limit))


def say_code(desk, texts):
    """Run a function by its rows."""
    name, args, heap, choices, limit = read_run(texts)
    look_at_run(desk.program, name, args, heap, choices, limit)
    return outcome_text(run_code(desk.program, name, args, heap, choices, limit))


def outcome_text(outcome):
    """Return the text of what comes of a run."""
    if outcome[0] == "done":
        _, value, heap, steps = outcome
        return "done " + str(value) + " " + pairs_text(heap) + " " + str(steps)
    if outcome[0] == "fault":
        _, name, way, heap, steps = outcome
        return "fault " + name + " " + way_text(way) + " " + pairs_text(heap) + " " + str(steps)
    return "long"


def say_holds(desk, texts):
    """Tell whether a saying holds."""
    store, heap = read_store(texts[0]), read_heap(texts[1])
    saying = read_saying(texts[2])
    known = [name for name, _ in store]
    if not all([name in known for name in names_in(saying)]):
        raise Unfit()
    return yes_or_no(holds(saying, store, heap))


def say_follows(desk, texts):
    """Tell whether a saying follows from another one."""
    ahead, behind = halves_of(texts[0], "=>")
    left, right = read_saying(ahead), read_saying(behind)
    names = names_in(left + right)
    if len(names) > MAX_NAMES:
        raise Unfit()
    told = parting(names, left, right)
    if told is None:
        return "yes"
    store, heap = told
    return "no " + pairs_text(store) + " " + pairs_text(heap)


ACTIONS = {
    "put": say_put, "drop": say_drop, "keep": say_keep, "unkeep": say_unkeep, "find": say_find, "undo": say_undo,
    "redo": say_redo, "names": say_names, "show": say_show, "rows": say_rows, "cuts": say_cuts, "check": say_check,
    "ends": say_ends, "judge": say_judge, "replay": say_replay, "run": say_run, "code": say_code,
    "holds": say_holds, "follows": say_follows,
}
