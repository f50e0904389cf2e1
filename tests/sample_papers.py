"""Papers for the tests: some written out, others by a random source told."""

import itertools
import random

from leanround.claims import alike, names_of, same_claim
from leanround.fitting import matched
from leanround.steps import claims_due
from leanround.terms import deep, parts
from samples import ZERO, any_atom, number


def within_bounds(claim):
    """Whether a claim is within the bounds of point 2."""
    left, right = claim
    if len(left) > 5 or len(right) > 4 or len(names_of(claim)) > 6:
        return False
    terms = [term for _, terms in left + right for term in terms]
    return all(len(parts(term)) <= 20 and deep(term) <= 8 for term in terms)


def flat(atoms):
    """A row of atoms as one row of terms."""
    return tuple([(saying, *terms) for saying, terms in atoms])


def a_fill(rng, claim, goal, goal_claim):
    """A fill from a claim to a goal's one, or None where none was found."""
    for _ in range(6):
        sides = []
        for atoms, goal_atoms in zip(claim, goal_claim):
            places = []
            for saying, _ in goal_atoms:
                there = [at for at, atom in enumerate(atoms) if atom[0] == saying]
                if not there:
                    return None
                places.append(rng.choice(there))
            sides.append(tuple(places))
        lefts, rights = sides
        one = flat(goal_claim[0] + goal_claim[1])
        other = flat([claim[0][p] for p in lefts] + [claim[1][p] for p in rights])
        pairs = matched(one, other)
        if pairs is not None:
            return "fill", goal, pairs, lefts, rights
    return None


def steps_for(rng, book, claims, n):
    """Steps that may be tried for a node, by claims of the nodes that are there."""
    claim = claims[n]
    left, right = claim
    ends = [("same", i, j) for i, j in itertools.product(range(len(left)), range(len(right)))
            if left[i] == right[j]]
    fills = [a_fill(rng, claim, goal, goal_claim) for goal, goal_claim in enumerate(claims)
             if goal != n or rng.random() < 0.1]
    ways = [("cases", i, ()) for i in range(len(left))]
    ways += [("use", i, r, ()) for i in range(len(right)) for r in range(4)]
    if rng.random() < 0.1 and names_of(claim):
        ways.append(("put", any_atom(rng, book, names_of(claim), 2), None, None))
    fills = [fill for fill in fills if fill is not None]
    rng.shuffle(fills)
    rng.shuffle(ways)
    if rng.random() < 0.3:
        ways = sorted(ways, key=lambda step: step[0] != "use")
    if rng.random() < 0.3:
        return ends + ways + fills
    return ends + fills + ways


def with_goals(step, goals):
    """A step with these goals in the place of its own."""
    if step[0] in ("cases", "use"):
        return (*step[:-1], tuple(goals))
    if step[0] == "fill":
        return ("fill", goals[0], *step[2:])
    if step[0] == "put":
        return (*step[:2], *goals)
    return step


def due_for(book, claim, step, claims):
    """The claims due for a step of which only the goals are lacking."""
    if step[0] == "fill":
        return claims_due(book, claim, step, claims[step[1]])
    for many in range(5):
        due = claims_due(book, claim, with_goals(step, [0] * many), None) \
            if step[0] in ("cases", "use") else claims_due(book, claim, step)
        if due is not None:
            return due
    return None


def goal_for(rng, word, due, claims):
    """The number of a node with a claim that is due, a new one's where there is none."""
    right = alike if word == "cases" else same_claim
    for goal, claim in enumerate(claims):
        if right(claim, due) and rng.random() < 0.9:
            return goal
    claims.append(due)
    return len(claims) - 1


def any_step(rng, book, claims, n, most):
    """A step for a node, the claims of its new goals put behind; or None."""
    for step in steps_for(rng, book, claims, n):
        dues = due_for(book, claims[n], step, claims)
        if dues is None or not all(due is None or within_bounds(due) for due in dues):
            continue
        if step[0] == "fill":
            return step
        more = list(claims)
        goals = [None if due is None else goal_for(rng, step[0], due, more) for due in dues]
        if len(more) <= most:
            claims[:] = more
            return with_goals(step, goals)
    return None


def any_paper(rng, book, claim, most):
    """A paper of the claim of which all nodes stand; or None where none was found."""
    claims = [claim]
    steps = []
    while len(steps) < len(claims):
        step = any_step(rng, book, claims, len(steps), most)
        if step is None:
            return None
        steps.append(step)
    return tuple(zip(claims, steps))


def nat(term):
    return ("nat", (term,))


def even(term):
    return ("even", (term,))


def odd(term):
    return ("odd", (term,))


def s(term):
    return ("s", term)


# Even numbers are numbers: a ring of four nodes, along which the left falls twice.
EVEN_PAPER = (
    (((even("x"),), (nat("x"),)), ("cases", 0, (1, 2))),
    (((), (nat(ZERO),)), ("use", 0, 0, ())),
    (((odd("y"),), (nat(s("y")),)), ("use", 0, 1, (3,))),
    (((odd("y"),), (nat("y"),)), ("cases", 0, (4,))),
    (((even("x"),), (nat(s("x")),)), ("use", 0, 1, (0,))),
)

# All five forms: x and 0 are x, by a ring that leads back by a fill.
PLUS_ZERO = ("plus", ("x", ZERO, "x"))
ALL_FORMS = (
    (((nat("x"),), (PLUS_ZERO,)), ("put", nat(s("x")), 1, 2)),
    (((nat("x"),), (PLUS_ZERO, nat(s("x")))), ("use", 1, 1, (3,))),
    (((nat("x"), nat(s("x"))), (PLUS_ZERO,)), ("fill", 4, (("z", "x"),), (0,), (0,))),
    (((nat("x"),), (PLUS_ZERO, nat("x"))), ("same", 0, 1)),
    (((nat("z"),), (("plus", ("z", ZERO, "z")),)), ("cases", 0, (5, 6))),
    (((), (("plus", (ZERO, ZERO, ZERO)),)), ("use", 0, 0, ())),
    (((nat("w"),), (("plus", (s("w"), ZERO, s("w"))),)), ("use", 0, 1, (7,))),
    (((nat("w"),), (("plus", ("w", ZERO, "w")),)), ("fill", 4, (("z", "w"),), (0,), (0,))),
)

# A claim that leads to itself, and one with places exchanged.
TO_ITSELF = ((((), (nat("x"),)), ("fill", 0, (("x", "x"),), (), (0,))),)
EXCHANGED = ((((nat("x"), nat("y")), (odd(ZERO),)),
              ("fill", 0, (("x", "y"), ("y", "x")), (1, 0), (0,))),)

# Two numbers that fall by turns: each goes to the other's place.
BY_TURNS = (
    (((nat("x"), nat("y")), (("le", (ZERO, "x")), ("le", (ZERO, "y")))), ("cases", 0, (1, 2))),
    (((nat("y"),), (("le", (ZERO, ZERO)), ("le", (ZERO, "y")))), ("use", 0, 0, ())),
    (((nat("x"), nat("y")), (("le", (ZERO, s("x"))), ("le", (ZERO, "y")))), ("use", 0, 1, (3,))),
    (((nat("x"), nat("y")), (("le", (ZERO, "x")), ("le", (ZERO, "y")))),
     ("fill", 0, (("x", "y"), ("y", "x")), (1, 0), (1, 0))),
)


def net_of_fills(seed, many, wide):
    """A paper of so many nodes: puts, and fills by chance that lead back to these."""
    rng = random.Random(seed)
    nodes = []
    for first in range(0, many, 3):
        left = (nat("x"),) * wide
        nodes.append(((left, (nat("x"),)), ("put", nat("x"), first + 1, first + 2)))
        for claim in ((left, (nat("x"), nat("x"))), (left + (nat("x"),), (nat("x"),))):
            lefts = tuple([rng.randrange(len(claim[0])) for _ in range(wide)])
            goal = 3 * rng.randrange(many // 3)
            nodes.append((claim, ("fill", goal, (("x", "x"),), lefts, (0,))))
    return tuple(nodes)


def numbered(names, *atoms):
    """The claim that numbers of these names make, of none or more other atoms, nought even."""
    return tuple([nat(name) for name in names]), (even(ZERO), *atoms)


def net_of_cases(seed, groups, wide):
    """A paper of five nodes to each group, in which each ring goes by cases that fall.

    Of each group the first is by cases of one number; of the lesser one a put leads,
    twice, to first ones, with the numbers' places exchanged by chance.
    """
    rng = random.Random(seed)
    names = "xyz"[:wide]
    nodes = []
    for first in range(0, 5 * groups, 5):
        i = rng.randrange(wide)
        nodes.append((numbered(names), ("cases", i, (first + 1, first + 2))))
        nodes.append((numbered(names[:i] + names[i + 1:]), ("use", 0, 0, ())))
        nodes.append((numbered(names), ("put", nat(ZERO), first + 3, first + 4)))
        left, right = numbered(names)
        for claim in (numbered(names, nat(ZERO)), (left + (nat(ZERO),), right)):
            lefts = tuple(rng.sample(range(wide), wide))
            pairs = tuple([(name, names[at]) for name, at in zip(names, lefts)])
            nodes.append((claim, ("fill", 5 * rng.randrange(groups), pairs, lefts, (0,))))
    return tuple(nodes)
