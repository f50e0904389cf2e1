"""Books, things and claims for the tests: some written out, others by a random source told."""

from leanround.terms import names_in, parts

ZERO = ("zero",)


def number(many, top=ZERO):
    for _ in range(many):
        top = ("s", top)
    return top


def row(*things):
    """A list of things, by put and nil."""
    told = ("nil",)
    for thing in reversed(things):
        told = ("put", thing, told)
    return told


MAKERS = (("zero", 0), ("s", 1), ("nil", 0), ("put", 2))
NAT = ("nat", 1, 0, (
    ((ZERO,), ()),
    ((("s", "x"),), (("nat", ("x",)),)),
))
EVEN = ("even", 1, 0, (
    ((ZERO,), ()),
    ((("s", "x"),), (("odd", ("x",)),)),
))
ODD = ("odd", 1, 0, (
    ((("s", "x"),), (("even", ("x",)),)),
))
PLUS = ("plus", 3, 0, (
    ((ZERO, "y", "y"), ()),
    ((("s", "x"), "y", ("s", "z")), (("plus", ("x", "y", "z")),)),
))
LE = ("le", 2, 1, (
    (("x", "x"), ()),
    (("x", ("s", "y")), (("le", ("x", "y")),)),
))
LIST = ("list", 1, 0, (
    ((("nil",),), ()),
    ((("put", "x", "y"),), (("nat", ("x",)), ("list", ("y",)))),
))
BOOK = (MAKERS, (NAT, EVEN, ODD, PLUS, LE, LIST))


def any_thing(rng, book, most):
    """A thing of at most so many makers, or as few as one can be of."""
    makers = [(maker, takes) for maker, takes in book[0] if takes < most or takes == 0]
    maker, takes = rng.choice(makers)
    if takes == 0:
        return (maker,)
    if takes == 1:
        return (maker, any_thing(rng, book, most - 1))
    first = rng.randrange(1, most - 1)
    return (maker, any_thing(rng, book, first), any_thing(rng, book, most - 1 - first))


def any_term(rng, book, names, most):
    """A term of at most so many parts, of these names, with makers or not."""
    makers = [(maker, takes) for maker, takes in book[0] if takes < most or takes == 0]
    if names and (rng.random() < 0.5 or not makers):
        return rng.choice(names)
    maker, takes = rng.choice(makers)
    if takes == 0:
        return (maker,)
    if takes == 1:
        return (maker, any_term(rng, book, names, most - 1))
    first = rng.randrange(1, most - 1)
    return (maker, any_term(rng, book, names, first),
            any_term(rng, book, names, most - 1 - first))


def any_need(rng, book, heads, within):
    """A need that a rule of these heads may have, of a term within by its by."""
    name, many, by, _ = rng.choice(book[1])
    terms = [any_term(rng, book, names_in(heads), 4) for _ in range(many)]
    terms[by] = rng.choice(within)
    return name, tuple(terms)


def any_rule(rng, book, many, by):
    """A rule that is let by in this book, for a saying of so many things."""
    names = ["x", "y", "z", "w"]
    heads = [any_term(rng, book, names, 3) for _ in range(many)]
    heads[by] = any_term(rng, book, rng.choice([names, []]), 4)
    if rng.random() < 0.6:
        maker, takes = rng.choice(book[0])
        heads[by] = (maker, *names[:takes])
    heads = tuple(heads)
    within = parts(heads[by])[1:]
    needs = []
    if within:
        needs = [any_need(rng, book, heads, within) for _ in range(rng.choice([0, 1, 1, 2]))]
    if not all(set(names_in(terms)) <= set(names_in(heads)) for _, terms in needs):
        needs = []
    return heads, tuple(needs)


def any_book(rng):
    """A book that is let by, of makers of which at least one takes nothing."""
    makers = [("c" + sign, rng.choice([0, 1, 1, 2])) for sign in "abcde"[:rng.randrange(1, 5)]]
    makers = (("z", 0), *makers)
    fronts = []
    for sign in "fghk"[:rng.randrange(1, 4)]:
        many = rng.choice([1, 1, 2, 2, 3])
        fronts.append((sign, many, rng.randrange(many), ()))
    bare = (makers, tuple(fronts))
    sayings = []
    for name, many, by, _ in fronts:
        rules = [any_rule(rng, bare, many, by) for _ in range(rng.choice([0, 1, 2, 2, 3, 4]))]
        sayings.append((name, many, by, tuple(rules)))
    return makers, tuple(sayings)


def any_atom(rng, book, names, most=4):
    """An atom of the book with names among these."""
    name, many, _, _ = rng.choice(book[1])
    return name, tuple([any_term(rng, book, names, most) for _ in range(many)])


def any_claim(rng, book):
    """A claim of the book, of few atoms and names."""
    names = rng.sample(["a", "b", "x", "y", "z"], rng.randrange(1, 4))
    left = tuple([any_atom(rng, book, names) for _ in range(rng.randrange(3))])
    right = tuple([any_atom(rng, book, names) for _ in range(rng.randrange(1, 3))])
    return left, right
