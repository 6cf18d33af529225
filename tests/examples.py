"""Runs examples as they stand in the document: a line behind >>>, then what it returns or raises."""


def wrong_examples(text):
    """Return how many examples text has, and those that do not come out as told."""
    names = {}
    rows = [row.strip() for row in text.strip().split("\n")]
    found = []
    many = 0
    for at, row in enumerate(rows):
        if row.startswith(">>> "):
            many += 1
            told = rows[at + 1] if at + 1 < len(rows) and not rows[at + 1].startswith(">>> ") else ""
            got = outcome(row[4:], names)
            if got != meant(told):
                found.append((row, got))
    return many, found


def outcome(source, names):
    """Return in words what comes of source; names that it sets stay set."""
    try:
        try:
            code = compile(source, "example", "eval")
        except SyntaxError:
            exec(source, names)
            return ""
        value = eval(code, names)
    except Exception as error:
        kept = ", ".join([repr(value) for value in vars(error).values()])
        return f"raises {type(error).__name__}({kept})"
    return "" if value is None else repr(value)


def meant(told):
    """Return told with its quotes as repr sets them."""
    if told.startswith("raises "):
        name, kept = told[len("raises "):].split("(", 1)
        values = eval("[" + kept[:-1] + "]")
        return f"raises {name}({', '.join([repr(value) for value in values])})"
    return repr(eval(told)) if told else ""
