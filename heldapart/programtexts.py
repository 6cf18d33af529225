"""Texts of functions and programs: how they are told, and how they are read."""

from heldapart.bounds import MAX_DEEP
from heldapart.errors import BadText
from heldapart.programs import program_error
from heldapart.sayingtexts import look_text, saying_text, signs_of, told_look, told_saying


def program_text(program):
    """Return the text of program."""
    return "\n".join([function_text(function) for function in program])


def function_text(function):
    """Return the text of function."""
    name, params, spares, wheres, head, foot, body = function
    first = "fun " + name + "(" + ", ".join(params) + ")"
    if spares:
        first = first + " with " + ", ".join(spares)
    lines = [first]
    if wheres:
        lines.append("  var " + ", ".join(wheres))
    lines.append("  head " + saying_text(head))
    lines.append("  foot " + saying_text(foot))
    return "\n".join(lines + ["{"] + inner_lines(body) + ["}"])


def inner_lines(statements):
    """Return the lines of statements, two blanks further in than those around them."""
    return ["  " + line for statement in statements for line in statement_lines(statement)]


def statement_lines(statement):
    """Return the lines of statement."""
    if statement[0] == "if":
        _, test, first, second = statement
        lines = ["if " + test_text(test) + " {"] + inner_lines(first)
        if second:
            lines = lines + ["} else {"] + inner_lines(second)
        return lines + ["}"]
    if statement[0] == "while":
        _, test, keep, statements = statement
        kept = "" if keep is None else " keep " + saying_text(keep)
        return ["while " + test_text(test) + kept + " {"] + inner_lines(statements) + ["}"]
    return [plain_text(statement) + ";"]


def plain_text(statement):
    """Return the text of a statement in which none stands, without its last sign."""
    word = statement[0]
    if word == "set":
        return statement[1] + " = " + statement[2]
    if word == "new":
        return statement[1] + " = new(" + statement[2] + ")"
    if word == "get":
        return statement[1] + " = [" + statement[2] + "]"
    if word == "put":
        return "[" + statement[1] + "] = " + statement[2]
    if word == "free":
        return "free(" + statement[1] + ")"
    _, goal, callee, args, spareargs = statement
    handed = ", ".join(args) + ("; " + ", ".join(spareargs) if spareargs else "")
    return goal + " = " + callee + "(" + handed + ")"


def test_text(test):
    """Return the text of test."""
    return "any" if test == ("any",) else look_text(test)


def read_program(value):
    """Return the program that value tells; raise BadText if it tells none."""
    reader = Reader(value)
    functions = []
    while reader.ahead() != "":
        functions.append(told_function(reader))
    program = tuple(functions)
    if program_error(program) is not None:
        raise BadText()
    return program


def read_function(value):
    """Return the function that value tells; raise BadText if it tells none."""
    reader = Reader(value)
    function = told_function(reader)
    wrong = program_error((function,))
    if reader.ahead() != "" or wrong is not None and wrong[0] != "call":
        raise BadText()
    return function


class Reader:
    """The words and signs of a text, and how many of them are read."""

    def __init__(self, value):
        self.signs = signs_of(value)
        self.at = 0

    def ahead(self):
        """Return the word or sign that comes next, "" behind the last one."""
        return self.signs[self.at] if self.at < len(self.signs) else ""

    def take(self):
        """Return the word or sign that comes next, and go behind it."""
        sign = self.ahead()
        self.at += 1
        return sign

    def skip(self, signs):
        """Go behind these words and signs; raise BadText if others come next."""
        for sign in signs:
            if self.take() != sign:
                raise BadText()

    def has(self, sign):
        """Tell whether this word or sign comes next, and go behind it if so."""
        if self.ahead() != sign:
            return False
        self.at += 1
        return True

    def row(self):
        """Return the tuple of the words with commas between them that come next."""
        words = [self.take()]
        while self.has(","):
            words.append(self.take())
        return tuple(words)

    def saying(self, end):
        """Return the saying ahead of the word or sign end, and go behind that."""
        begin = self.at
        while self.ahead() not in (end, ""):
            self.at += 1
        saying = told_saying(self.signs[begin:self.at])
        self.skip([end])
        return saying


def told_function(reader):
    """Return the function that comes next; its words and statements may still be wrong ones."""
    reader.skip(["fun"])
    name = reader.take()
    reader.skip(["("])
    params = () if reader.ahead() == ")" else reader.row()
    reader.skip([")"])
    spares = reader.row() if reader.has("with") else ()
    wheres = reader.row() if reader.has("var") else ()
    reader.skip(["head"])
    head = reader.saying("foot")
    foot = reader.saying("{")
    return name, params, spares, wheres, head, foot, told_statements(reader, 0)


def told_statements(reader, deep):
    """Return the statements up to the bracket that ends them, standing in so many others."""
    statements = []
    while not reader.has("}"):
        if deep > MAX_DEEP:
            raise BadText()
        statements.append(told_statement(reader, deep))
    return tuple(statements)


def told_statement(reader, deep):
    """Return the statement that comes next; its terms may still be wrong ones."""
    word = reader.take()
    if word == "if":
        return told_if(reader, deep)
    if word == "while":
        return told_while(reader, deep)
    if word == "[":
        left = reader.take()
        reader.skip(["]", "="])
        statement = ("put", left, reader.take())
    elif word == "free":
        reader.skip(["("])
        statement = ("free", reader.take())
        reader.skip([")"])
    else:
        reader.skip(["="])
        statement = told_goal(word, reader)
    reader.skip([";"])
    return statement


def told_goal(goal, reader):
    """Return the statement by which goal gets what comes next."""
    word = reader.take()
    if word == "[":
        statement = ("get", goal, reader.take())
        reader.skip(["]"])
        return statement
    if not reader.has("("):
        return ("set", goal, word)
    if word == "new":
        statement = ("new", goal, reader.take())
    else:
        args = () if reader.ahead() in (")", ";") else reader.row()
        statement = ("call", goal, word, args, reader.row() if reader.has(";") else ())
    reader.skip([")"])
    return statement


def told_if(reader, deep):
    """Return the if whose test comes next."""
    test = told_test(reader)
    reader.skip(["{"])
    first = told_statements(reader, deep + 1)
    second = ()
    if reader.has("else"):
        reader.skip(["{"])
        second = told_statements(reader, deep + 1)
    return ("if", test, first, second)


def told_while(reader, deep):
    """Return the while whose test comes next."""
    test = told_test(reader)
    keep = None
    if reader.has("keep"):
        keep = reader.saying("{")
    else:
        reader.skip(["{"])
    return ("while", test, keep, told_statements(reader, deep + 1))


def told_test(reader):
    """Return the test that comes next."""
    left = reader.take()
    if left == "any":
        return ("any",)
    sign = reader.take()
    return told_look(left, sign, reader.take())
