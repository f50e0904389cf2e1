"""Claims: their names, claims under pairs, claims alike."""

from leanround.terms import inner, names_in, put_in, same, sign


def terms_of(atoms):
    """All terms of a row of atoms, from left to right."""
    return [term for _, terms in atoms for term in terms]


def names_of(claim):
    """The names of a claim, in the order in which they first stand."""
    left, right = claim
    return names_in(terms_of((*left, *right)))


def atoms_put(atoms, worth):
    """A row of atoms with what a dict has for them in the place of names."""
    return tuple([(saying, tuple([put_in(term, worth) for term in terms]))
                  for saying, terms in atoms])


def claim_under(claim, pairs):
    """The claim with the term of its pair in the place of each name that has one."""
    left, right = claim
    worth = {name: put for name, put in pairs}
    return atoms_put(left, worth), atoms_put(right, worth)


def same_atoms(atoms, others):
    """Whether two rows of atoms have the same sayings, with as many terms."""
    return ([(saying, len(terms)) for saying, terms in atoms]
            == [(saying, len(terms)) for saying, terms in others])


def same_atom(one, other):
    """Whether two atoms are the same."""
    if not same_atoms((one,), (other,)):
        return False
    return all([same(first, second) for first, second in zip(one[1], other[1])])


def same_claim(one, other):
    """Whether two claims are the same, names and all."""
    for atoms, others in zip(one, other):
        if len(atoms) != len(others):
            return False
        if not all([same_atom(first, second) for first, second in zip(atoms, others)]):
            return False
    return True


def names_exchanged(rows):
    """Whether by exchanging names, one for one, the first term of each row is the second."""
    there, back = {}, {}
    waiting = list(rows)
    while waiting:
        one, other = waiting.pop()
        if isinstance(one, str) and isinstance(other, str):
            if there.setdefault(one, other) != other or back.setdefault(other, one) != one:
                return False
        elif sign(one) != sign(other):
            return False
        else:
            # Both are gone through together, so that this ends with the lesser one.
            waiting.extend(list(zip(inner(one), inner(other))))
    return True


def alike(one, other):
    """Whether by exchanging names, one for one, the one claim becomes the other."""
    rows = []
    for atoms, others in zip(one, other):
        if not same_atoms(atoms, others):
            return False
        rows.extend(list(zip(terms_of(atoms), terms_of(others))))
    return names_exchanged(rows)
