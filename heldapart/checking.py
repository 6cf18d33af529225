"""Programs checked: they are let by, or a paper tells where a stretch goes wrong."""

from heldapart.errors import NoFunction, Open
from heldapart.laying import can_lay
from heldapart.papers import paper_of
from heldapart.programs import statement_at, walked
from heldapart.stretches import Stretches, open_ways, start_cases


def cuts(function):
    """Return the ascending tuple of the begin and the ways of all whiles of function."""
    return ((),) + tuple([way for way, statement in walked(function[6], ()) if statement[0] == "while"])


def stretch_ends(program, name, way):
    """Return the ascending tuple of where, how and with which case stretches from this cut end."""
    function = function_named(program, name)
    look_for_open(function)
    stretches = gone_through(program, function, way, start_cases(function, way))
    return tuple(sorted([(end[0], verdict_of(function, end), end[2]) for end in stretches.ends]))


def function_named(program, name):
    """Return the function of program with this name; raise NoFunction if there is none."""
    for function in program:
        if function[0] == name:
            return function
    raise NoFunction(name)


def look_for_open(function):
    """Raise Open with the least way of a while of function that has no keep, if there is one."""
    ways = open_ways(function)
    if ways:
        raise Open(function[0], ways[0])


def gone_through(program, function, way, cases):
    """Return all stretches of function from this cut that begin with cases."""
    stretches = Stretches(program, function, way)
    for case in cases:
        stretches.begin(case)
    stretches.go_on()
    return stretches


def verdict_of(function, end):
    """Return how a stretch ends that comes to this end."""
    where, word, case = end
    if word != "came":
        return word
    told = function[5] if where == () else statement_at(function, where)[2]
    return "kept" if can_lay(case, told) else "unkept"


def check(program):
    """Return None if no stretch of program goes wrong, otherwise a paper of one that does."""
    for function in program:
        look_for_open(function)
    rows = [(function, way) for function in program for way in cuts(function)]
    starts = [(function, way, start_cases(function, way)) for function, way in rows]
    for function, way, cases in starts:
        stretches = gone_through(program, function, way, cases)
        for end in stretches.ends:
            if verdict_of(function, end) != "kept":
                return paper_of(function[0], stretches, end)
    return None


def let_by(program):
    """Return whether no stretch of program goes wrong."""
    return check(program) is None
