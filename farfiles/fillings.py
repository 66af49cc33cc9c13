"""Answers as the tree without the cells gives them, and the cells put into them."""


def wanted_parts(word, raw):
    """The PARTS whose cells the answer to a deed of this word wants, None of none."""
    if word == "sight":
        inner = raw[1][1]
    elif word == "lease":
        inner = raw[1][0][1]
    elif word == "read" or word == "old":
        inner = raw
    else:
        return None
    return inner[1] if inner[0] == "cells" else None


def filled(word, raw, inner):
    """The answer with another one in the place of its ("cells", PARTS)."""
    if word == "sight":
        look, _ = raw[1]
        return ("told", (look, inner))
    if word == "lease":
        (look, _), until = raw[1]
        return ("told", ((look, inner), until))
    return inner
