"""The rows that a desk is told: words with one blank between."""

from farfiles.deeds import GLANCED
from farfiles.errors import NoRow
from farfiles.words import is_path

MOST_FIGURES = 9

# Behind each word of a row stands what belongs to it, in its order.
ROW_FORMS = {
    "folder": ("name", "path"), "file": ("name", "path"), "strike": ("name", "path"),
    "read": ("name", "path"), "list": ("name", "path"), "look": ("name", "path"),
    "use": ("name", "path"), "back": ("name", "path"),
    "move": ("name", "path", "path"), "link": ("name", "path", "path"),
    "write": ("name", "path", "number or end", "number"),
    "cut": ("name", "path", "number"), "limit": ("name", "path", "number or none"),
    "snap": ("name", "path", "name"), "old": ("name", "name", "path"),
    "lease": ("name", "path", "number"), "glance": ("name", "glanced", "path"),
    "answer": ("number",), "carry": ("number",), "lose": ("number",), "double": ("number",),
    "tick": ("number",), "fall": ("name",), "rise": ("name",), "gone": ("name",),
    "bend": ("name",), "empty": ("name",),
    "letters": (), "alone": (), "calm": (), "settled": (), "fits": (),
}


def read_row(row):
    """The row's word, and what its other words stand for, as a list."""
    if not isinstance(row, str) or row.splitlines() != [row]:
        raise NoRow(row)
    words = row.split(" ")
    word, *others = words
    if word not in ROW_FORMS:
        raise NoRow(row)
    form = ROW_FORMS[word]
    if word == "write":
        # As many cells as there are.
        form = form + ("number",) * (len(others) - len(form))
    if len(others) != len(form):
        raise NoRow(row)
    found = []
    for kind, other in zip(form, others):
        reader = READERS[kind]
        read = reader(other)
        if not read:
            raise NoRow(row)
        found.append(read[0])
    return (word, found)


def _name(text):
    """Each of these tells in a tuple what the text stands for, () where it isn't so written."""
    return (text,) if text else ()


def _path(text):
    if text == "/":
        return ((),)
    path = tuple(text.split("/"))
    return (path,) if is_path(path) else ()


def _number(text):
    figures = text.removeprefix("-")
    if not figures.isascii() or not figures.isdigit() or len(figures) > MOST_FIGURES:
        return ()
    if figures.startswith("0") and text != "0":
        return ()
    return (int(text),)


def _number_or_end(text):
    return (None,) if text == "end" else _number(text)


def _number_or_none(text):
    return (None,) if text == "none" else _number(text)


def _glanced(text):
    return (text,) if text in GLANCED else ()


READERS = {
    "name": _name, "path": _path, "number": _number, "number or end": _number_or_end,
    "number or none": _number_or_none, "glanced": _glanced,
}
