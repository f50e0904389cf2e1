"""Books: looking at them, and what of them is asked by name."""

from leanround.errors import NoBook
from leanround.terms import is_name, names_in, parts, same

MOST_TAKEN = 2
MOST_THINGS = 3


def takes_of(book):
    """A dict from the book's makers to how many terms each takes."""
    return {name: takes for name, takes in book[0]}


def saying_named(book, name):
    """The saying of this name, or None."""
    for saying in book[1]:
        if saying[0] == name:
            return saying
    return None


def rules_of(book, name):
    """The rules of the saying of this name, in their order."""
    saying = saying_named(book, name)
    return () if saying is None else saying[3]


def is_term(takes, told):
    """Whether anything at all is a term of the makers in this dict."""
    waiting = [told]
    while waiting:
        part = waiting.pop()
        if isinstance(part, str):
            if not is_name(part):
                return False
        elif not isinstance(part, tuple) or len(part) == 0 or not isinstance(part[0], str):
            return False
        elif takes.get(part[0]) != len(part) - 1:
            return False
        else:
            waiting.extend(part[1:])
    return True


def are_terms(takes, row):
    """Whether each of a row is a term of the makers in this dict."""
    return all([is_term(takes, told) for told in row])


def look_name(name, ahead):
    """Refuses a name that is none, or that is one of the dict of those ahead."""
    if not is_name(name):
        raise NoBook("name", name)
    if name in ahead:
        raise NoBook("twice", name)


def look_makers(makers):
    """Refuses the first maker that isn't let by."""
    ahead = {}
    for name, takes in makers:
        look_name(name, ahead)
        if not 0 <= takes <= MOST_TAKEN:
            raise NoBook("takes", name)
        ahead[name] = True


def look_sayings(sayings):
    """Refuses the first saying that isn't let by, whatever its rules are."""
    ahead = {}
    for name, many, by, _ in sayings:
        look_name(name, ahead)
        if not 1 <= many <= MOST_THINGS:
            raise NoBook("many", name)
        if not 0 <= by < many:
            raise NoBook("by", name)
        ahead[name] = True


def look_need(book, name, heads, lesser, need):
    """Refuses a need that isn't let by; lesser are the terms that it may be of by its by."""
    saying, terms = need
    needed = saying_named(book, saying)
    if needed is None:
        raise NoBook("saying", name)
    if len(terms) != needed[1]:
        raise NoBook("count", name)
    if not are_terms(takes_of(book), terms):
        raise NoBook("term", name)
    known = names_in(heads)
    if not all([told in known for told in names_in(terms)]):
        raise NoBook("loose", name)
    if not any([same(terms[needed[2]], part) for part in lesser]):
        raise NoBook("lesser", name)


def look_rule(book, saying, rule):
    """Refuses a rule of this saying that isn't let by."""
    name, many, by, _ = saying
    heads, needs = rule
    if len(heads) != many:
        raise NoBook("heads", name)
    if not are_terms(takes_of(book), heads):
        raise NoBook("term", name)
    lesser = parts(heads[by])[1:]
    for need in needs:
        look_need(book, name, heads, lesser, need)


def look_book(book):
    """True, or NoBook with the first thing that is due."""
    makers, sayings = book
    look_makers(makers)
    look_sayings(sayings)
    for saying in sayings:
        for rule in saying[3]:
            look_rule(book, saying, rule)
    return True
