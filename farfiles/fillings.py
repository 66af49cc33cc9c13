"""Answers as the tree without the cells gives them, and the cells put into them."""


def wanted_parts(word, raw):
    """The PARTS whose cells the answer to a deed of this word wants, None of none."""
    inner = _inner(word, raw)
    if inner is not None and inner[0] == "cells":
        return inner[1]
    return None


def filled(word, raw, inner):
    """The answer with another one in the place of its ("cells", PARTS)."""
    if word == "sight":
        look, _ = raw[1]
        return ("told", (look, inner))
    if word == "lease":
        (look, _), until = raw[1]
        return ("told", ((look, inner), until))
    return inner


def _inner(word, raw):
    """The answer that may tell cells, None where there is none."""
    if word == "sight":
        return raw[1][1]
    if word == "lease":
        return raw[1][0][1]
    if word in ("read", "old"):
        return raw
    return None
