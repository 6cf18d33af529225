"""Programs: functions with unlike names, their statements, and the ways to these."""

from heldapart.bounds import MAX_DEEP, MAX_FUNCTIONS, MAX_NAMES, MAX_STATEMENTS
from heldapart.errors import Unfit
from heldapart.sayings import LOOK_WORDS, is_name, is_triple, names_in, saying_error


def program_error(value):
    """Return None if value is a program, otherwise what is wrong with it."""
    if not isinstance(value, tuple) or not 1 <= len(value) <= MAX_FUNCTIONS:
        return "form"
    if not all([isinstance(item, tuple) and len(item) == 7 for item in value]):
        return "form"
    for spot, item in enumerate(value):
        wrong = function_error(item, [ahead[0] for ahead in value[:spot]])
        if wrong is not None:
            return (wrong[0], spot) + wrong[1:]
    return call_error(value)


def function_error(item, names_ahead):
    """Return what is wrong with an item of seven, and the way if it is a statement, None if nothing is."""
    name, params, spares, wheres, head, foot, body = item
    if not is_name(name) or name in names_ahead:
        return ("name",)
    if not are_names_of_one(params, spares, wheres):
        return ("names",)
    if not is_saying_over(head, params + spares) or len(head) != 1:
        return ("head",)
    if not is_saying_over(foot, params + spares + ("result",)):
        return ("foot",)
    way = wrong_way(item)
    if way is not None:
        return ("statement", way)
    return ("many",) if len(walked(body, ())) > MAX_STATEMENTS else None


def are_names_of_one(params, spares, wheres):
    """Tell whether these may be the names of one function, beside result."""
    if not all([are_names(names) for names in (params, spares, wheres)]):
        return False
    names = params + spares + wheres
    return len(set(names)) == len(names) < MAX_NAMES


def are_names(value):
    """Tell whether value is a tuple of names."""
    return isinstance(value, tuple) and all([is_name(item) for item in value])


def is_saying_over(value, names):
    """Tell whether value is a saying that has no other names."""
    return saying_error(value) is None and all([name in names for name in names_in(value)])


def wrong_way(function):
    """Return the way of the first statement of function that is none, None if all are."""
    _, params, spares, wheres, _, _, body = function
    if not isinstance(body, tuple):
        return ()
    goals = wheres + ("result",)
    return wrong_below(body, (), goals, ("nil",) + params + goals, spares)


def wrong_below(statements, above, goals, terms, spares):
    """Return the way of the first of statements, or of those in them, that is none."""
    for place, statement in enumerate(statements):
        way = above + (place,)
        if len(above) > 2 * MAX_DEEP or not is_statement(statement, goals, terms, spares):
            return way
        for side, inner in enumerate(inner_of(statement)):
            wrong = wrong_below(inner, way + (side,), goals, terms, spares)
            if wrong is not None:
                return wrong
    return None


def is_statement(value, goals, terms, spares):
    """Tell whether value is a statement; what stands in it is looked at as far as it is a tuple."""
    if not isinstance(value, tuple) or not value:
        return False
    word, items = value[0], value[1:]
    if word in ("set", "new", "get"):
        return len(items) == 2 and items[0] in goals and items[1] in terms
    if word == "put":
        return len(items) == 2 and items[0] in terms and items[1] in terms
    if word == "free":
        return len(items) == 1 and items[0] in terms
    if word == "call":
        return len(items) == 4 and items[0] in goals and is_call(items[1:], terms, spares)
    if word not in ("if", "while") or len(items) != 3 or not is_test(items[0], terms):
        return False
    if word == "while" and items[1] is not None and not is_saying_over(items[1], terms + spares):
        return False
    return all([isinstance(inner, tuple) for inner in inner_of(value)])


def is_call(items, terms, spares):
    """Tell whether items are a callee, args and spareargs."""
    callee, args, spareargs = items
    return is_name(callee) and are_among(args, terms) and are_among(spareargs, terms + spares)


def is_test(value, terms):
    """Tell whether value is a test over terms."""
    if value == ("any",):
        return True
    return is_triple(value, LOOK_WORDS) and are_among(value[1:], terms)


def are_among(value, terms):
    """Tell whether value is a tuple of some of terms."""
    return isinstance(value, tuple) and all([item in terms for item in value])


def inner_of(statement):
    """Return the tuples of statements that stand in statement, in the order of their ways."""
    if statement[0] == "if":
        return statement[2:]
    return statement[3:] if statement[0] == "while" else ()


def call_error(program):
    """Return which call of program does not fit, None if all do."""
    counts = {function[0]: (len(function[1]), len(function[2])) for function in program}
    for spot, function in enumerate(program):
        for way, statement in walked(function[6], ()):
            if statement[0] == "call":
                _, _, callee, args, spareargs = statement
                if callee not in counts or counts[callee] != (len(args), len(spareargs)):
                    return ("call", spot, way)
    return None


def walked(statements, above):
    """Return a list of pairs, way and statement, of statements and of all that stands in them."""
    rows = []
    for place, statement in enumerate(statements):
        way = above + (place,)
        rows.append((way, statement))
        for side, inner in enumerate(inner_of(statement)):
            rows.extend(walked(inner, way + (side,)))
    return rows


def names_of(function):
    """Return the ascending tuple of all names of function."""
    return tuple(sorted(function[1] + function[2] + function[3] + ("result",)))


def ways_of(function):
    """Return the ascending tuple of the ways of all statements of function."""
    return tuple([way for way, _ in walked(function[6], ())])


def statement_at(function, way):
    """Return the statement of function with this way; raise Unfit if there is none."""
    for known, statement in walked(function[6], ()):
        if known == way:
            return statement
    raise Unfit()


def with_keeps(function, keeps):
    """Return function with the keeps that the dict keeps has for the ways of whiles."""
    return function[:6] + (with_keeps_below(function[6], (), keeps),)


def with_keeps_below(statements, above, keeps):
    """Return statements with the keeps that the dict keeps has for them and for what stands in them."""
    rows = []
    for place, statement in enumerate(statements):
        way = above + (place,)
        inner = [with_keeps_below(row, way + (side,), keeps) for side, row in enumerate(inner_of(statement))]
        if statement[0] == "while":
            statement = ("while", statement[1], keeps.get(way, statement[2]), inner[0])
        elif statement[0] == "if":
            statement = ("if", statement[1], inner[0], inner[1])
        rows.append(statement)
    return tuple(rows)
