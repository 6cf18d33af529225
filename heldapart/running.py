"""Runs of programs, statement by statement."""

from heldapart.errors import NoFunction
from heldapart.stores import looks_hold


def run(program, name, args, heap, choices, limit):
    """Return what comes of the function with this name: done, fault or long."""
    functions = {function[0]: function for function in program}
    if name not in functions:
        raise NoFunction(name)
    return outcome(functions, Frame(functions[name], args, None), Ground(heap, choices, limit))


def outcome(functions, first, ground):
    """Return what comes of the first frame.

    The frames stand in a row of their own, as thousands of calls may stand in one another.
    """
    frames = [first]
    while True:
        frame = frames[-1]
        if not frame.todo:
            frames.pop()
            if not frames:
                return ("done", frame.worths["result"], ground.heap_now(), ground.steps)
            caller = frames[-1]
            caller.worths[frame.goal] = frame.worths["result"]
            continue
        way, statement = frame.todo.pop()
        if not ground.count_step():
            return ("long",)
        if statement[0] in ("if", "while"):
            frame.begin_inner(way, statement, test_holds(statement[1], frame.worths, ground))
        elif statement[0] == "call":
            _, goal, callee, args, _ = statement
            frames.append(Frame(functions[callee], [frame.worths[term] for term in args], goal))
        elif not do_plain(statement, frame.worths, ground):
            return ("fault", frame.name, way, ground.heap_now(), ground.steps)


class Frame:
    """A function that is run: what its terms are worth, and what is still to be done, the next one last."""

    def __init__(self, function, args, goal):
        name, params, _, wheres, _, _, body = function
        self.name = name
        self.goal = goal
        self.worths = first_worths(params, wheres, args)
        self.todo = []
        self.begin(body, ())

    def begin(self, statements, above):
        """Put these statements, in their order, ahead of all that is to be done."""
        rows = [(above + (place,), statement) for place, statement in enumerate(statements)]
        self.todo.extend(rows[::-1])

    def begin_inner(self, way, statement, holding):
        """Begin what stands in an if or a while whose test holds, or does not."""
        if statement[0] == "if":
            side = 0 if holding else 1
            self.begin(statement[2 + side], way + (side,))
        elif holding:
            self.todo.append((way, statement))
            self.begin(statement[3], way + (0,))


def first_worths(params, wheres, args):
    """Return a dict with the values that terms have when a function begins."""
    worths = {name: 0 for name in ("nil", "result") + wheres}
    for name, value in zip(params, args):
        worths[name] = value
    return worths


def test_holds(test, worths, ground):
    """Tell whether test holds; any takes a choice."""
    if test == ("any",):
        return ground.choose() % 2 == 1
    return looks_hold((test,), worths)


def do_plain(statement, worths, ground):
    """Do a set, new, get, put or free; tell whether it does not fault."""
    word = statement[0]
    if word == "set":
        worths[statement[1]] = worths[statement[2]]
        return True
    if word == "new":
        worths[statement[1]] = ground.make(worths[statement[2]])
        return True
    at = worths[statement[2 if word == "get" else 1]]
    if at not in ground.cells:
        return False
    if word == "get":
        worths[statement[1]] = ground.cells[at]
    elif word == "put":
        ground.cells[at] = worths[statement[2]]
    else:
        ground.drop(at)
    return True


class Ground:
    """The cells of a run, the choices that it has taken, and its steps."""

    def __init__(self, heap, choices, limit):
        self.cells = dict(heap)
        self.held = [address for address, _ in heap]
        self.choices = choices
        self.chosen = 0
        self.limit = limit
        self.steps = 0

    def heap_now(self):
        """Return the heap of all cells; held has their addresses, and they ascend."""
        return tuple([(address, self.cells[address]) for address in self.held])

    def count_step(self):
        """Count a step, and tell whether limit lets it."""
        if self.steps == self.limit:
            return False
        self.steps += 1
        return True

    def choose(self):
        """Return the first choice that is not yet taken, 0 if there is none."""
        if self.chosen == len(self.choices):
            return 0
        self.chosen += 1
        return self.choices[self.chosen - 1]

    def make(self, value):
        """Return the address of a new cell that holds value: the chosen one of those that are not held."""
        choice = self.choose()
        below = self.held_below(choice)
        address = choice + 1 + below
        self.held.insert(below, address)
        self.cells[address] = value
        return address

    def held_below(self, choice):
        """Return how many held addresses are below the one at this place of those that are not held.

        Below held[at] there are held[at] - 1 - at ones that are not held, which never descends.
        """
        low, high = 0, len(self.held)
        while low < high:
            middle = (low + high) // 2
            if self.held[middle] - 1 - middle <= choice:
                low = middle + 1
            else:
                high = middle
        return low

    def drop(self, address):
        """Take away the cell at address."""
        self.held.remove(address)
        del self.cells[address]
