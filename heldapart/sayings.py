"""Sayings: tuples of clauses, each of looks and of parts that lie apart."""

from heldapart.bounds import MAX_CLAUSES, MAX_LOOKS, MAX_PARTS

WORDS = (
    "nil", "result", "fun", "head", "foot", "with", "var", "if", "else", "while",
    "keep", "new", "free", "any", "cell", "list", "empty", "is", "isnt",
)
LETTERS = "abcdefghijklmnopqrstuvwxyz"
MAX_LETTERS = 8
LOOK_WORDS = ("is", "isnt")
PART_WORDS = ("cell", "list")


def saying_error(value):
    """Return None if value is a saying, otherwise what is wrong with it."""
    if not isinstance(value, tuple) or not 1 <= len(value) <= MAX_CLAUSES:
        return "form"
    for spot, clause in enumerate(value):
        if not is_clause(clause):
            return ("clause", spot)
    return None


def names_in(saying):
    """Return the ascending tuple of all names that stand in saying."""
    triples = [triple for looks, parts in saying for triple in looks + parts]
    return tuple(sorted({term for triple in triples for term in triple[1:] if term != "nil"}))


def is_clause(value):
    """Tell whether value is a pair of looks and parts, not too many of each."""
    if not isinstance(value, tuple) or len(value) != 2:
        return False
    looks, parts = value
    return are_triples(looks, LOOK_WORDS, MAX_LOOKS) and are_triples(parts, PART_WORDS, MAX_PARTS)


def are_triples(value, words, most):
    """Tell whether value is a tuple of at most so many triples that begin with one of words."""
    if not isinstance(value, tuple) or len(value) > most:
        return False
    return all([is_triple(item, words) for item in value])


def is_triple(value, words):
    """Tell whether value is a triple of one of words and two terms."""
    if not isinstance(value, tuple) or len(value) != 3:
        return False
    word, left, right = value
    return word in words and is_term(left) and is_term(right)


def is_term(value):
    """Tell whether value may stand in a look or a part."""
    return value in ("nil", "result") or is_name(value)


def is_name(value):
    """Tell whether value is a name; "result" is a word of the language and none."""
    if not isinstance(value, str) or not 1 <= len(value) <= MAX_LETTERS:
        return False
    return value not in WORDS and all([sign in LETTERS for sign in value])
