"""Desks: functions that are kept, changed, checked and run."""

from heldapart.bounds import MAX_EDITS, MAX_FUNCTIONS
from heldapart.checking import check, function_named
from heldapart.errors import (
    BadLog, BadProgram, HeldError, NothingToRedo, NothingToUndo, NoVersion, TooManyEdits, Unfit,
)
from heldapart.finding import found
from heldapart.programs import names_of, program_error, walked, with_keeps
from heldapart.programtexts import function_text, read_function
from heldapart.running import run
from heldapart.sayings import names_in
from heldapart.sayingtexts import read_saying
from heldapart.stores import heap_error, is_value

MAX_STEPS = 10000


def look_at_program(program):
    """Raise BadProgram if program is none."""
    error = program_error(program)
    if error is not None:
        raise BadProgram(error)


def look_at_run(program, name, args, heap, choices, limit):
    """Raise what a desk raises of a run that cannot be."""
    look_at_program(program)
    function = function_named(program, name)
    if not are_values(args) or len(args) != len(function[1]) or heap_error(heap) is not None:
        raise Unfit()
    if not are_values(choices) or not is_value(limit) or limit > MAX_STEPS:
        raise Unfit()


def are_values(value):
    """Tell whether value is a tuple of integers from 0 on."""
    return isinstance(value, tuple) and all([is_value(item) for item in value])


class Desk:
    """Functions of unlike names, the edits that changed them, and those that were taken back."""

    def __init__(self):
        self._programs = [()]
        self._edits = []
        self._undone = []

    @property
    def program(self):
        """The tuple of the functions, their names ascending."""
        return self._programs[-1]

    @property
    def version(self):
        """How many edits stand."""
        return len(self._edits)

    @property
    def log(self):
        """The tuple of the edits that stand."""
        return tuple(self._edits)

    def put(self, text):
        """Put the function that text tells on the desk, in the place of the one with its name."""
        function = read_function(text)
        others = [other for other in self.program if other[0] != function[0]]
        if len(others) == MAX_FUNCTIONS:
            raise Unfit()
        return self._edit(("put", text), tuple(sorted(others + [function])))

    def drop(self, name):
        """Take the function with this name from the desk."""
        function_named(self.program, name)
        return self._edit(("drop", name), tuple([other for other in self.program if other[0] != name]))

    def keep(self, name, way, text):
        """Give the while with this way of a function the keep that text tells, or none."""
        function = function_named(self.program, name)
        whiles = [known for known, statement in walked(function[6], ()) if statement[0] == "while"]
        if not are_values(way) or way not in whiles:
            raise Unfit()
        saying = None if text is None else read_saying(text)
        if saying is not None and not all([known in names_of(function) for known in names_in(saying)]):
            raise Unfit()
        changed = with_keeps(function, {way: saying})
        program = tuple([changed if other[0] == name else other for other in self.program])
        return self._edit(("keep", name, way, text), program)

    def find(self):
        """Find a keep for each while that has none."""
        look_at_program(self.program)
        return self._edit(("find",), found(self.program))

    def undo(self):
        """Take back the last edit."""
        if not self._edits:
            raise NothingToUndo()
        self._undone.append((self._edits.pop(), self._programs.pop()))
        return len(self._edits)

    def redo(self):
        """Do the edit again that was taken back last."""
        if not self._undone:
            raise NothingToRedo()
        edit, program = self._undone.pop()
        self._edits.append(edit)
        self._programs.append(program)
        return len(self._edits)

    def at(self, version):
        """Return the program as it was when so many edits stood."""
        if not is_value(version) or version > len(self._edits):
            raise NoVersion(version)
        return self._programs[version]

    def text(self, name):
        """Return the text of the function with this name."""
        return function_text(function_named(self.program, name))

    def check(self):
        """Return None if the program is let by, otherwise a paper."""
        look_at_program(self.program)
        return check(self.program)

    def run(self, name, args, heap, choices, limit):
        """Return what comes of the function with this name."""
        look_at_run(self.program, name, args, heap, choices, limit)
        return run(self.program, name, args, heap, choices, limit)

    def _edit(self, edit, program):
        """Let an edit stand, by which the program is this one; return the new version."""
        if len(self._edits) == MAX_EDITS:
            raise TooManyEdits()
        self._edits.append(edit)
        self._programs.append(program)
        self._undone = []
        return len(self._edits)


def desk_behind(log):
    """Return a new desk by which all edits of log were done; raise BadLog if one is none, or refused."""
    if not isinstance(log, tuple):
        raise BadLog(0)
    desk = Desk()
    for place, item in enumerate(log):
        if not is_edit(item):
            raise BadLog(place)
        try:
            do_edit(desk, item)
        except HeldError:
            raise BadLog(place)
    return desk


def is_edit(value):
    """Tell whether value is a tuple of the word of an edit and as many arguments as it has."""
    if not isinstance(value, tuple) or not value:
        return False
    for word, many in (("put", 1), ("drop", 1), ("keep", 3), ("find", 0)):
        if value[0] == word and len(value) == many + 1:
            return True
    return False


def do_edit(desk, edit):
    """Do an edit on desk."""
    word = edit[0]
    if word == "put":
        desk.put(edit[1])
    elif word == "drop":
        desk.drop(edit[1])
    elif word == "keep":
        desk.keep(edit[1], edit[2], edit[3])
    else:
        desk.find()
