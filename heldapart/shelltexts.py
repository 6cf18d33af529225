"""Texts of numbers, ways, stores, heaps, answers and papers, as a shell reads and tells them."""

from heldapart.stores import heap_error, store_error

FIGURES = "0123456789"
MAX_FIGURES = 60


class NoText(ValueError):
    """A line, or a text in it, is none that a shell reads."""


def read_name(text):
    """Return text, if it is not empty; blanks do not come here."""
    if text == "":
        raise NoText()
    return text


def read_number(text):
    """Return the integer that text tells."""
    if not 1 <= len(text) <= MAX_FIGURES or not all([sign in FIGURES for sign in text]):
        raise NoText()
    if text[0] == "0" and text != "0":
        raise NoText()
    return int(text)


def read_numbers(text):
    """Return the tuple of integers that text tells."""
    return () if text == "none" else tuple([read_number(row) for row in text.split(",")])


def read_way(text):
    """Return the way that text tells."""
    return () if text == "begin" else tuple([read_number(row) for row in text.split(".")])


def halves_of(text, mark):
    """Return what stands ahead of and behind the first mark in text."""
    ahead, met, behind = text.partition(mark)
    if met == "":
        raise NoText()
    return ahead, behind


def read_store(text):
    """Return the store that text tells."""
    rows = [] if text == "none" else [halves_of(row, ":") for row in text.split(",")]
    store = tuple([(name, read_number(number)) for name, number in rows])
    if store_error(store) is not None:
        raise NoText()
    return store


def read_heap(text):
    """Return the heap that text tells."""
    rows = [] if text == "none" else [halves_of(row, ":") for row in text.split(",")]
    heap = tuple([(read_number(address), read_number(number)) for address, number in rows])
    if heap_error(heap) is not None:
        raise NoText()
    return heap


def read_answers(text):
    """Return the tuple of answers that text tells."""
    return () if text == "none" else tuple([read_answer(row) for row in text.split(";")])


def read_answer(text):
    """Return the answer that text tells."""
    word, told = halves_of(text, ":")
    if word == "any" and told in ("yes", "no"):
        return ("any", told == "yes")
    if word == "new":
        return ("new", read_number(told))
    if word != "call":
        raise NoText()
    given, piece = halves_of(told, "/")
    return ("call", read_number(given), read_heap(piece))


def read_paper(texts):
    """Return the paper that five texts tell."""
    name, way, store, heap, answers = texts
    return read_name(name), read_way(way), read_store(store), read_heap(heap), read_answers(answers)


def way_text(way):
    """Return the text of way."""
    return ".".join([str(number) for number in way]) if way else "begin"


def pairs_text(pairs):
    """Return the text of a store or a heap."""
    return ",".join([str(left) + ":" + str(right) for left, right in pairs]) if pairs else "none"


def answers_text(answers):
    """Return the text of answers."""
    return ";".join([answer_text(answer) for answer in answers]) if answers else "none"


def answer_text(answer):
    """Return the text of answer."""
    word = answer[0]
    if word == "any":
        return "any:yes" if answer[1] else "any:no"
    if word == "new":
        return "new:" + str(answer[1])
    return "call:" + str(answer[1]) + "/" + pairs_text(answer[2])


def paper_text(paper):
    """Return the text of paper."""
    name, way, store, heap, answers = paper
    return " ".join([name, way_text(way), pairs_text(store), pairs_text(heap), answers_text(answers)])
