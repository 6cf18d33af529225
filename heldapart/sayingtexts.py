"""Texts of sayings: how they are told, and how they are read."""

from heldapart.errors import BadText
from heldapart.sayings import LETTERS, LOOK_WORDS, PART_WORDS, saying_error

BLANKS = " \n"
SIGNS = "()[]{},;=*|"
LOOK_SIGNS = {"is": "=", "isnt": "!="}


def saying_text(saying):
    """Return the text of saying."""
    return " | ".join([clause_text(clause) for clause in saying])


def clause_text(clause):
    """Return the text of clause: of its looks, then of its parts."""
    looks, parts = clause
    texts = [look_text(look) for look in looks] + [part_text(part) for part in parts]
    return " * ".join(texts) if texts else "empty"


def look_text(look):
    """Return the text of look."""
    word, left, right = look
    return left + " " + LOOK_SIGNS[word] + " " + right


def part_text(part):
    """Return the text of part."""
    word, left, right = part
    return word + "(" + left + ", " + right + ")"


def read_saying(value):
    """Return the saying that value tells; raise BadText if it tells none."""
    return told_saying(signs_of(value))


def signs_of(value):
    """Return the list of the words and signs of value; raise BadText if it has others."""
    if not isinstance(value, str):
        raise BadText()
    signs = []
    at = 0
    while at < len(value):
        end = sign_end(value, at)
        if value[at] not in BLANKS:
            signs.append(value[at:end])
        at = end
    return signs


def sign_end(text, at):
    """Return where the word, sign or blank that begins at this place of text is over."""
    if text[at] in LETTERS:
        while at < len(text) and text[at] in LETTERS:
            at += 1
        return at
    if text[at:at + 2] == "!=":
        return at + 2
    if text[at] in SIGNS or text[at] in BLANKS:
        return at + 1
    raise BadText()


def told_saying(signs):
    """Return the saying that words and signs tell; raise BadText if they tell none."""
    saying = tuple([told_clause(row) for row in parted(signs, "|")])
    if saying_error(saying) is not None:
        raise BadText()
    return saying


def told_clause(signs):
    """Return the clause that words and signs tell; its terms may still be none."""
    if signs == ["empty"]:
        return (), ()
    triples = [told_triple(row) for row in parted(signs, "*")]
    looks = tuple([triple for triple in triples if triple[0] in LOOK_WORDS])
    return looks, tuple([triple for triple in triples if triple[0] in PART_WORDS])


def told_triple(signs):
    """Return the look or part that words and signs tell; its terms may still be none."""
    if len(signs) == 3:
        return told_look(signs[0], signs[1], signs[2])
    if len(signs) == 6 and signs[0] in PART_WORDS and signs[1::2] == ["(", ",", ")"]:
        return signs[0], signs[2], signs[4]
    raise BadText()


def told_look(left, sign, right):
    """Return the look with these terms and this sign between them."""
    for word in LOOK_WORDS:
        if LOOK_SIGNS[word] == sign:
            return word, left, right
    raise BadText()


def parted(signs, mark):
    """Return the lists of signs ahead of, between and behind the marks among them."""
    rows = [[]]
    for sign in signs:
        if sign == mark:
            rows.append([])
        else:
            rows[-1].append(sign)
    return rows
