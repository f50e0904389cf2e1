"""Names, terms and things: their parts, how deep they are, their size, terms under pairs.

Things that are come to by needs may stand deeper than Python calls itself,
so nothing here calls itself: terms are gone through by a list of what waits.
"""

LETTERS = "abcdefghijklmnopqrstuvwxyz"
LONGEST = 8
WORDS = ("if", "to", "lefts")


def is_name(text):
    """Whether a text is a name."""
    if not 1 <= len(text) <= LONGEST or text in WORDS:
        return False
    return all([letter in LETTERS for letter in text])


def inner(term):
    """The terms that stand right in a term, from left to right."""
    return () if isinstance(term, str) else term[1:]


def sign(term):
    """A name itself; of another term its maker, and how many terms that has here."""
    return term if isinstance(term, str) else (term[0], len(term) - 1)


def parts(term):
    """The term itself, then each term in it with its parts, from left to right."""
    found = []
    waiting = [term]
    while waiting:
        part = waiting.pop()
        found.append(part)
        waiting.extend(inner(part)[::-1])
    return found


def same(one, other):
    """Whether two terms are the same, however deep they are."""
    # == of the terms themselves would go as deep as they are. Both are gone through
    # together, so that no more is looked at than the lesser one has parts: the other
    # may have one part in so many places that they can't all be gone through.
    waiting = [(one, other)]
    while waiting:
        first, second = waiting.pop()
        if sign(first) != sign(second):
            return False
        waiting.extend(list(zip(inner(first), inner(second))))
    return True


def deep(term):
    """How deep a term is: 0 where no term stands in it."""
    level = inner(term)
    depth = 0
    while level:
        level = [below for part in level for below in inner(part)]
        depth += 1
    return depth


def size(thing):
    """How many makers stand in a thing, each time counted."""
    return len([part for part in parts(thing) if not isinstance(part, str)])


def names_in(terms):
    """The names of a row of terms, in the order in which they first stand."""
    found = {}
    for term in terms:
        for part in parts(term):
            if isinstance(part, str):
                found[part] = True
    return list(found)


def put_in(term, worth):
    """The term with what a dict has for it in the place of each name that the dict has."""
    built = []
    # Parts stand behind what they are parts of, so that going backwards the terms
    # in a part are built ahead of it, and its leftmost one last.
    for part in reversed(parts(term)):
        if isinstance(part, str):
            built.append(worth.get(part, part))
        else:
            within = [built.pop() for _ in part[1:]]
            built.append((part[0], *within))
    return built[0]


def under(term, pairs):
    """The term with the term of its pair in the place of each name that has one."""
    return put_in(term, {name: put for name, put in pairs})
