"""Papers that are unrolled, with things and whys for them; some told by a random source."""

import itertools
import random

import sample_papers
import samples
from leanround.claims import names_of
from leanround.errors import Loose, TooMany
from leanround.rings import look
from leanround.whys import why_of
from plainly import all_things, all_whys, atoms_with, plain_why
from sample_papers import ALL_FORMS, BY_TURNS, EVEN_PAPER, even, nat, net_of_cases, s
from samples import BOOK, ZERO, number

# Sayings for papers in which things and whys grow by parts that stand in many places.
GROWING = (
    (("zero", 0), ("s", 1), ("two", 2)),
    (
        ("nat", 1, 0, (((ZERO,), ()), ((s("x"),), (nat("x"),)))),
        ("full", 1, 0, (((ZERO,), ()), ((s("x"),), (("full", ("x",)), ("full", ("x",)))))),
        ("wide", 2, 0, (((ZERO, "y"), ()),
                        ((s("x"), "y"), (("wide", ("x", ("two", "y", "y"))),)))),
        ("both", 3, 0, (((ZERO, "y", "y"), ()),
                        ((s("x"), "y", "z"), (("both", ("x", ("two", "y", "y"),
                                                        ("two", "z", "z"))),)))),
    ),
)


def full(term):
    return ("full", (term,))


# All below a number are full, each by twice the why of the one below.
FULL_PAPER = (
    (((nat("x"),), (full("x"),)), ("cases", 0, (1, 2))),
    (((), (full(ZERO),)), ("use", 0, 0, ())),
    (((nat("x"),), (full(s("x")),)), ("put", full("x"), 3, 4)),
    (((nat("x"),), (full(s("x")), full("x"))), ("fill", 0, (("x", "x"),), (0,), (1,))),
    (((nat("x"), full("x")), (full(s("x")),)), ("use", 0, 1, (5, 5))),
    (((nat("x"), full("x")), (full("x"),)), ("same", 1, 0)),
)

# The second thing is doubled at each turn of the ring.
WIDE_PAPER = (
    (((nat("x"),), (("wide", ("x", "y")),)), ("cases", 0, (1, 2))),
    (((), (("wide", (ZERO, "y")),)), ("use", 0, 0, ())),
    (((nat("x"),), (("wide", (s("x"), "y")),)), ("use", 0, 1, (3,))),
    (((nat("x"),), (("wide", ("x", ("two", "y", "y"))),)),
     ("fill", 0, (("x", "x"), ("y", ("two", "y", "y"))), (0,), (0,))),
)

# The same, by cases of a saying whose rules have one name twice.
BOTH_PAPER = (
    (((("both", ("x", "y", "z")),), (nat("x"),)), ("cases", 0, (1, 2))),
    (((), (nat(ZERO),)), ("use", 0, 0, ())),
    (((("both", ("w", ("two", "y", "y"), ("two", "z", "z"))),), (nat(s("w")),)),
     ("use", 0, 1, (3,))),
    (((("both", ("w", ("two", "y", "y"), ("two", "z", "z"))),), (nat("w"),)),
     ("fill", 0, (("x", "w"), ("y", ("two", "y", "y")), ("z", ("two", "z", "z"))), (0,), (0,))),
)

# It stands and isn't let by: the ring of its last node is come to by one of two cases alone.
ONE_WAY = (
    (((nat("x"),), (nat("x"), even("x"))), ("cases", 0, (1, 2))),
    (((), (nat(ZERO), even(ZERO))), ("use", 1, 0, ())),
    (((nat("y"),), (nat(s("y")), even(s("y")))), ("fill", 2, (("y", "y"),), (0,), (0, 1))),
)

# Three of a row fall in turn; the row's own why is told, or a member's.
LISTED = (
    (((("list", ("z",)), nat("c")), (("list", ("z",)), nat("c"))), ("cases", 0, (1, 2))),
    (((nat("c"),), (("list", (("nil",),)), nat("c"))), ("use", 0, 0, ())),
    (((nat("a"), ("list", ("b",)), nat("c")), (("list", (("put", "a", "b"),)), nat("c"))),
     ("use", 0, 1, (3, 4))),
    (((nat("a"), ("list", ("b",)), nat("c")), (nat("a"), nat("c"))), ("same", 0, 0)),
    (((nat("a"), ("list", ("b",)), nat("c")), (("list", ("b",)), nat("c"))),
     ("fill", 0, (("z", "b"), ("c", "c")), (1, 2), (0, 1))),
)

WRITTEN = (EVEN_PAPER, ALL_FORMS, BY_TURNS, LISTED)


def let_by(book, paper):
    """Whether a paper that stands is let by; None where that is too much to ask."""
    try:
        return look(book, paper, 3000)
    except Loose:
        return False
    except TooMany:
        return None


def any_why(rng, book, atom):
    """A why of an atom of things, any of those that there are, or None."""
    if plain_why(book, atom) is None:
        return None
    whys = all_whys(book, atom)
    return rng.choice(whys) if whys else None


def holding(rng, book, claim, tries, most=3):
    """Things and whys by which the left of a claim holds, one by one, of some tried."""
    names = names_of(claim)
    things = all_things(book, most)[:12]
    rows = list(itertools.product(things, repeat=len(names)))
    if len(rows) > 400:
        rows = rng.sample(rows, 400)
    rng.shuffle(rows)
    found = []
    for row in rows:
        if len(found) == tries:
            break
        worth = dict(zip(names, row))
        atoms = atoms_with(claim[0], worth)
        if all([plain_why(book, atom) is not None for atom in atoms]):
            found.append((worth, tuple([any_why(rng, book, atom) for atom in atoms])))
    return found


def papers_let_by(seeds, most):
    """(rng, book, paper): papers by chance that are let by, with goals."""
    for seed in seeds:
        rng = random.Random(seed)
        book = samples.any_book(rng) if seed % 3 else BOOK
        for _ in range(8):
            paper = sample_papers.any_paper(rng, book, samples.any_claim(rng, book), most)
            if paper is not None and len(paper) > 1 and let_by(book, paper):
                yield rng, book, paper


def runs_by_chance(seeds, most, tries=2):
    """(rng, book, paper, things, whys) of papers by chance that are let by, and of some nets."""
    for rng, book, paper in papers_let_by(seeds, most):
        for things, whys in holding(rng, book, paper[0][0], tries):
            yield rng, book, paper, things, whys


def runs_of_nets(seeds):
    """The same of nets in which each ring goes by cases that fall, and of papers written out."""
    for seed in seeds:
        rng = random.Random(seed)
        paper = net_of_cases(seed, 1 + seed % 3, 1 + seed % 2)
        yield (rng, BOOK, paper, *numbers_for(rng, paper))
    for paper in WRITTEN:
        for many in range(4):
            rng = random.Random(many)
            yield (rng, BOOK, paper, *numbers_for(rng, paper))


def numbers_for(rng, paper):
    """Things for a paper whose left is of numbers, even ones, and a row of these; with whys."""
    things = {}
    for saying, (name,) in paper[0][0][0]:
        many = rng.randrange(5)
        things[name] = number(2 * many if saying == "even" else many)
        if saying == "list":
            things[name] = samples.row(*[number(rng.randrange(3)) for _ in range(many)])
    for name in names_of(paper[0][0]):
        things.setdefault(name, number(1))
    whys = tuple([why_of(BOOK, atom) for atom in atoms_with(paper[0][0][0], things)])
    return things, whys


def led(left, goal, name="x", place=0, rights=(0,)):
    """A node for nought is even, and a fill to a claim of one number and that."""
    return (left, (even(ZERO),) * (rights[0] + 1)), ("fill", goal, (("x", name),), (place,), rights)


def calling(front):
    """A paper of two numbers, let by, of which 2,000 nodes less 3 and so many fills are gone into.

    That is where both numbers are three: the ring of each is gone through five times for
    each time that the one above is.
    """
    nought, one = (even(ZERO),), (nat("x"),)
    both = (nat("x"), nat("y"))
    ring = front + 3
    nodes = [((both, nought), ("fill", n + 1, (("x", "x"), ("y", "y")), (0, 1), (0,)))
             for n in range(front)]
    nodes.append(((both, nought), ("put", even(ZERO), front + 1, front + 2)))
    nodes.append(led(both, ring, rights=(1,)))
    nodes.append(led((*both, even(ZERO)), ring, "y", 1))
    nodes.append(((one, nought), ("cases", 0, (ring + 1, ring + 5))))
    nodes.extend([(((), nought), ("fill", ring + n, (), (), (0,))) for n in (2, 3, 4)])
    nodes.append((((), nought), ("use", 0, 0, ())))
    nodes.extend([led(one, ring + n) for n in (6, 7)])
    for many in range(4):
        left, at = one + nought * many, len(nodes)
        nodes.append(((left, nought), ("put", even(ZERO), at + 1, at + 2)))
        nodes.append(led(left, ring, rights=(1,)))
    nodes.append(led(one + nought * 4, ring))
    return tuple(nodes)
