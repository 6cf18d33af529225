"""Programs as rows: the code of functions, and the machine that goes by it."""

from heldapart.errors import NoFunction
from heldapart.running import Ground, do_plain, first_worths, test_holds


def code_of(function):
    """Return the code of function."""
    return tuple([row for _, row in coded(function)])


def row_ways(function):
    """Return for each row of function's code the way of its statement, () for the last one."""
    return tuple([way for way, _ in coded(function)])


def coded(function):
    """Return a list of pairs, way and row, of function's code."""
    return rows_of(function[6], (), 0) + [((), ("back",))]


def rows_of(statements, above, begin):
    """Return the pairs, way and row, of statements; the first one comes to the place begin."""
    rows = []
    for place, statement in enumerate(statements):
        way, at = above + (place,), begin + len(rows)
        if statement[0] == "if":
            rows.extend(rows_of_if(statement, way, at))
        elif statement[0] == "while":
            rows.extend(rows_of_while(statement, way, at))
        elif statement[0] == "call":
            rows.append((way, statement[:4]))
        else:
            rows.append((way, statement))
    return rows


def rows_of_if(statement, way, begin):
    """Return the pairs, way and row, of an if."""
    _, test, first, second = statement
    firsts = rows_of(first, way + (0,), begin + 1)
    behind = begin + 1 + len(firsts)
    if not second:
        return [(way, ("unless", test, behind))] + firsts
    seconds = rows_of(second, way + (1,), behind + 1)
    jump = (way, ("jump", behind + 1 + len(seconds)))
    return [(way, ("unless", test, behind + 1))] + firsts + [jump] + seconds


def rows_of_while(statement, way, begin):
    """Return the pairs, way and row, of a while."""
    _, test, _, statements = statement
    rows = rows_of(statements, way + (0,), begin + 1)
    return [(way, ("unless", test, begin + len(rows) + 2))] + rows + [(way, ("jump", begin))]


def run_code(program, name, args, heap, choices, limit):
    """Return what comes of the function with this name, as run does, going by rows."""
    codes = {function[0]: (function, coded(function)) for function in program}
    if name not in codes:
        raise NoFunction(name)
    return outcome_by_rows(codes, RowFrame(codes[name], args, None), Ground(heap, choices, limit))


class RowFrame:
    """A function that is run by its rows: the place of the one that comes next, what its terms are worth."""

    def __init__(self, coded_function, args, goal):
        function, self.rows = coded_function
        self.name = function[0]
        self.goal = goal
        self.place = 0
        self.worths = first_worths(function[1], function[3], args)


def outcome_by_rows(codes, first, ground):
    """Return what comes of the first frame."""
    frames = [first]
    while True:
        frame = frames[-1]
        way, row = frame.rows[frame.place]
        frame.place += 1
        if row[0] == "jump":
            frame.place = row[1]
        elif row[0] == "back":
            frames.pop()
            if not frames:
                return ("done", frame.worths["result"], ground.heap_now(), ground.steps)
            frames[-1].worths[frame.goal] = frame.worths["result"]
        elif not ground.count_step():
            return ("long",)
        elif row[0] == "unless":
            if not test_holds(row[1], frame.worths, ground):
                frame.place = row[2]
        elif row[0] == "call":
            _, goal, callee, args = row
            frames.append(RowFrame(codes[callee], [frame.worths[term] for term in args], goal))
        elif not do_plain(row, frame.worths, ground):
            return ("fault", frame.name, way, ground.heap_now(), ground.steps)
