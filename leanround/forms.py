"""Whether anything at all is an atom, a claim or a step of a book."""

from leanround.books import are_terms, is_term, saying_named, takes_of

# What stands behind the word of each step, place by place.
STEP_FORMS = {
    "same": ("number", "number"),
    "cases": ("number", "goals"),
    "use": ("number", "number", "goals"),
    "fill": ("goal", "pairs", "numbers", "numbers"),
    "put": ("atom", "goal", "goal"),
}


def is_number(told):
    """Whether anything is a whole number, and no truth."""
    return isinstance(told, int) and not isinstance(told, bool)


def is_goal(told):
    """Whether anything may stand in a goal's place."""
    return told is None or is_number(told)


def is_atom(book, told):
    """Whether anything is an atom of the book."""
    if not isinstance(told, tuple) or len(told) != 2 or not isinstance(told[0], str):
        return False
    saying = saying_named(book, told[0])
    terms = told[1]
    if saying is None or not isinstance(terms, tuple) or len(terms) != saying[1]:
        return False
    return are_terms(takes_of(book), terms)


def are_atoms(book, told):
    """Whether anything is a row of atoms of the book, perhaps of none."""
    return isinstance(told, tuple) and all([is_atom(book, atom) for atom in told])


def is_claim(book, told):
    """Whether anything is a claim, its atoms of the book."""
    if not isinstance(told, tuple) or len(told) != 2:
        return False
    left, right = told
    return are_atoms(book, left) and are_atoms(book, right) and len(right) > 0


def is_pair(book, told):
    """Whether anything is a text and a term of the book."""
    if not isinstance(told, tuple) or len(told) != 2 or not isinstance(told[0], str):
        return False
    return is_term(takes_of(book), told[1])


def fits_place(book, place, told):
    """Whether anything may stand in a place of a step, as STEP_FORMS calls it."""
    if place == "number":
        return is_number(told)
    if place == "goal":
        return is_goal(told)
    if place == "atom":
        return is_atom(book, told)
    if not isinstance(told, tuple):
        return False
    if place == "numbers":
        return all([is_number(one) for one in told])
    if place == "goals":
        return all([is_goal(one) for one in told])
    return all([is_pair(book, one) for one in told])


def is_step(book, told):
    """Whether anything is of one of the five forms, right or not."""
    if not isinstance(told, tuple) or len(told) == 0 or not isinstance(told[0], str):
        return False
    if told[0] not in STEP_FORMS:
        return False
    places = STEP_FORMS[told[0]]
    if len(told) != len(places) + 1:
        return False
    return all([fits_place(book, place, one) for place, one in zip(places, told[1:])])
