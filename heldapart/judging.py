"""Papers judged: a stretch is done with its store, heap and answers, without cases."""

from heldapart.checking import cuts
from heldapart.errors import Unfit
from heldapart.programs import names_of, statement_at
from heldapart.roads import Road
from heldapart.stores import heap_error, holds, is_address, is_value, looks_hold, lost, part_of, store_error


def goes_wrong(program, value):
    """Return whether value is a paper of program."""
    return judged(program, value) is not None


def replay(program, value):
    """Return how and where the stretch of a paper goes wrong, and its stores and heaps; raise Unfit if it is none."""
    told = judged(program, value)
    if told is None:
        raise Unfit()
    return told


def judged(program, value):
    """Return what replay tells of a paper, None of all else."""
    if not isinstance(value, tuple) or len(value) != 5:
        return None
    name, way, store, heap, answers = value
    for function in program:
        if function[0] == name:
            if is_start(function, way, store, heap) and isinstance(answers, tuple):
                return Trial(program, function, store, heap, answers).outcome(way)
    return None


def is_start(function, way, store, heap):
    """Tell whether a stretch from this cut begins with store and heap."""
    if not isinstance(way, tuple) or not all([is_value(item) for item in way]) or way not in cuts(function):
        return False
    if store_error(store) is not None or heap_error(heap) is not None:
        return False
    if tuple([name for name, _ in store]) != names_of(function):
        return False
    if way == ():
        nils = function[3] + ("result",)
        return all([value == 0 for name, value in store if name in nils]) and holds(function[4], store, heap)
    keep = statement_at(function, way)[2]
    return keep is not None and holds(keep, store, heap)


class Trial:
    """A stretch that is done: the values of terms, the cells, and the answers that are not taken yet."""

    def __init__(self, program, function, store, heap, answers):
        self.functions = {callee[0]: callee for callee in program}
        self.function = function
        self.road = Road(function)
        self.names = names_of(function)
        self.worths = dict(store)
        self.worths["nil"] = 0
        self.cells = dict(heap)
        self.answers = list(answers[::-1])
        self.rows = [(store, heap)]

    def now(self):
        """Return the store and the heap as they are."""
        return tuple([(name, self.worths[name]) for name in self.names]), tuple(sorted(list(self.cells.items())))

    def outcome(self, way):
        """Return what replay tells of the stretch from this cut, None if it does not go wrong."""
        place = self.road.begin_of(way)
        begun = way == ()
        while True:
            place = self.road.behind_jumps(place)
            where, row = self.road.rows[place]
            if begun and self.road.is_end(place):
                return self.told(self.end_verdict(where), where)
            begun = True
            verdict = self.test(row) if row[0] == "unless" else self.do(self.road.statements[where])
            if verdict == "no":
                place = row[2]
            elif verdict in ("yes", "done"):
                place += 1
            else:
                return self.told(verdict, where)

    def told(self, verdict, where):
        """Return what replay tells of this verdict, None if it is none that goes wrong, or answers are left over."""
        if verdict in ("kept", "odd") or self.answers:
            return None
        return verdict, where, tuple(self.rows)

    def end_verdict(self, where):
        """Return kept or unkept for a while or the function's end; odd if the while has no keep."""
        told = self.function[5] if where == () else self.road.statements[where][2]
        if told is None:
            return "odd"
        store, heap = self.now()
        return "kept" if holds(told, store, heap) else "unkept"

    def answer(self, word, many):
        """Return the next answer, of so many items; None if it is none that begins with word."""
        if not self.answers:
            return None
        answer = self.answers.pop()
        if not isinstance(answer, tuple) or len(answer) != many or answer[0] != word:
            return None
        return answer

    def test(self, row):
        """Return yes or no, as the test of an unless falls; odd if no right answer tells it."""
        test = row[1]
        if test != ("any",):
            return "yes" if looks_hold((test,), self.worths) else "no"
        answer = self.answer("any", 2)
        if answer is None or not isinstance(answer[1], bool):
            return "odd"
        return "yes" if answer[1] else "no"

    def do(self, statement):
        """Do a statement that is no if and no while; return done, odd, or how it goes wrong."""
        word = statement[0]
        if word == "call":
            verdict = self.call(statement)
        elif word == "set":
            self.worths[statement[1]] = self.worths[statement[2]]
            verdict = "done"
        elif word == "new":
            verdict = self.make(statement)
        else:
            verdict = self.reach(statement)
        if verdict != "done":
            return verdict
        self.rows.append(self.now())
        store, heap = self.rows[-1]
        return "lost" if lost(store, heap) else "done"

    def make(self, statement):
        """Do a new with the address that is told."""
        answer = self.answer("new", 2)
        if answer is None or not is_address(answer[1]) or answer[1] in self.cells:
            return "odd"
        self.cells[answer[1]] = self.worths[statement[2]]
        self.worths[statement[1]] = answer[1]
        return "done"

    def reach(self, statement):
        """Do a get, put or free."""
        word = statement[0]
        at = self.worths[statement[2 if word == "get" else 1]]
        if at not in self.cells:
            return "fault"
        if word == "get":
            self.worths[statement[1]] = self.cells[at]
        elif word == "put":
            self.cells[at] = self.worths[statement[2]]
        else:
            del self.cells[at]
        return "done"

    def call(self, statement):
        """Do what the next answer tells of a call, if the callee's foot lets it."""
        _, goal, called_name, args, spareargs = statement
        callee = self.functions[called_name]
        own = [(name, self.worths[term]) for name, term in zip(callee[1] + callee[2], args + spareargs)]
        part = part_of(callee[4][0], tuple(sorted(own)), self.now()[1])
        if part is None:
            return "head"
        answer = self.answer("call", 3)
        if answer is None or not is_value(answer[1]) or heap_error(answer[2]) is not None:
            return "odd"
        _, given, piece = answer
        used = dict(part)
        left = {address: value for address, value in self.cells.items() if address not in used}
        if any([address in left for address, _ in piece]):
            return "odd"
        if not holds(callee[5], tuple(sorted(own + [("result", given)])), piece):
            return "odd"
        for address, value in piece:
            left[address] = value
        self.cells = left
        self.worths[goal] = given
        return "done"
