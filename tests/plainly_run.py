"""Unrolling, papers made of papers and plain papers, done over again in slow and plain ways."""

from leanround.ties import ties_of
from plainly import atoms_with, laid_on, plainly_matched, plainly_stands, rules_named


class TooMuch(Exception):
    """More nodes would be gone into than may be."""


def flat_terms(claim):
    return tuple([term for side in claim for _, terms in side for term in terms])


def things_by(goal_claim, due):
    """The things for a claim's names by which it is this one of things."""
    things = plainly_matched(flat_terms(goal_claim), flat_terms(due))
    assert things is not None
    for side, due_side in zip(goal_claim, due):
        assert [name for name, _ in side] == [name for name, _ in due_side]
    return things


def with_things(claim, things):
    return atoms_with(claim[0], things), atoms_with(claim[1], things)


class PlainRun:
    """A paper unrolled by functions that call themselves, with claims of things throughout.

    Each node gone into is kept: (n, things, whys, the place here of what it is a goal of, k).
    """

    def __init__(self, book, paper, most=400):
        self.book = book
        self.paper = paper
        self.most = most
        self.gone = []

    def on(self, here, k, goal, due, whys):
        """Goes into a goal, whose claim under its things must be the one due."""
        return self.into(goal, things_by(self.paper[goal][0], due), whys, here, k)

    def into(self, n, things, whys, ahead, k):
        if len(self.gone) == self.most:
            raise TooMuch()
        here = len(self.gone)
        self.gone.append((n, things, whys, ahead, k))
        (word, *step) = self.paper[n][1]
        claim = with_things(self.paper[n][0], things)
        return getattr(self, "by_" + word)(here, things, whys, claim, *step)

    def by_same(self, here, things, whys, claim, i, j):
        assert claim[0][i] == claim[1][j]
        return j, whys[i]

    def by_cases(self, here, things, whys, claim, i, goals):
        left, right = claim
        r, parts = whys[i]
        heads, needs = rules_named(self.book, left[i][0])[r]
        due = left[:i] + atoms_with(needs, plainly_matched(heads, left[i][1])) + left[i + 1:]
        return self.on(here, r, goals[r], (due, right), whys[:i] + parts + whys[i + 1:])

    def by_use(self, here, things, whys, claim, i, r, goals):
        left, right = claim
        heads, needs = rules_named(self.book, right[i][0])[r]
        told = []
        for k, need in enumerate(atoms_with(needs, plainly_matched(heads, right[i][1]))):
            due = left, right[:i] + (need,) + right[i + 1:]
            j, why = self.on(here, k, goals[k], due, whys)
            if j != i:
                return j, why
            told.append(why)
        return i, (r, tuple(told))

    def by_fill(self, here, things, whys, claim, goal, pairs, lefts, rights):
        left, right = claim
        due = tuple([left[p] for p in lefts]), tuple([right[p] for p in rights])
        j, why = self.on(here, 0, goal, due, tuple([whys[p] for p in lefts]))
        return rights[j], why

    def by_put(self, here, things, whys, claim, atom, one, other):
        left, right = claim
        (made,) = atoms_with((atom,), things)
        j, why = self.on(here, 0, one, (left, right + (made,)), whys)
        if j < len(right):
            return j, why
        return self.on(here, 1, other, (left + (made,), right), whys + (why,))


def plainly_unrolled(book, paper, things, whys, most=400):
    """((j, why, gone), a row for each node gone into)."""
    run = PlainRun(book, paper, most)
    j, why = run.into(0, things, tuple(whys), None, None)
    return (j, why, len(run.gone)), run.gone


def plain_led(node):
    """A node as (claim, step without goals, goals)."""
    claim, step = node
    word = step[0]
    if word == "fill":
        return claim, (word, *step[2:]), (step[1],)
    if word == "put":
        return claim, step[:2], step[2:]
    if word == "same":
        return claim, step, ()
    return claim, step[:-1], step[-1]


def plain_node(claim, step, goals):
    """What plain_led made of a node."""
    word = step[0]
    if word == "fill":
        return claim, (word, *goals, *step[1:])
    if word in ("put", "same"):
        return claim, (*step, *goals)
    return claim, (*step, tuple(goals))


def plain_with_numbers(paper, kept, number):
    """The nodes kept, each goal led to the number told for it."""
    nodes = []
    for n in kept:
        claim, step, goals = plain_led(paper[n])
        goals = [None if goal is None else number(goal) for goal in goals]
        nodes.append(plain_node(claim, step, goals))
    return tuple(nodes)


def plainly_gathered(paper):
    """Pairs of nodes are told apart, till no more are, by themselves or by goals."""
    rows = [plain_led(node) for node in paper]
    many = range(len(paper))
    apart = {(a, b) for a in many for b in many
             if rows[a][:2] != rows[b][:2] or len(rows[a][2]) != len(rows[b][2])
             or [g is None for g in rows[a][2]] != [g is None for g in rows[b][2]]}
    while True:
        more = {(a, b) for a in many for b in many
                if (a, b) not in apart and any([(g, h) in apart for g, h in
                                                zip(rows[a][2], rows[b][2]) if g is not None])}
        if not more:
            break
        apart |= more
    first = [min([b for b in many if (a, b) not in apart]) for a in many]
    kept = [n for n in many if first[n] == n]
    return plain_with_numbers(paper, kept, lambda goal: kept.index(first[goal]))


def plainly_trimmed(paper):
    """Nodes in the order in which one that calls itself comes to them."""
    order = []

    def come_to(n):
        if n is not None and n not in order:
            order.append(n)
            for goal in plain_led(paper[n])[2]:
                come_to(goal)

    come_to(0)
    return plain_with_numbers(paper, order, order.index)


def all_ties(many):
    return frozenset([(at, at, False) for at in range(many)])


def plain_way(paper, n):
    """The way down to a node: [(m, k), ..] from node 0, or None of a node of no one giver."""
    way = []
    while n > 0:
        given = [(m, k) for m in range(n) if paper[m][1][0] != "hyp"
                 for k, goal in enumerate(plain_led(paper[m])[2]) if goal == n]
        if len(given) != 1:
            return None
        way.insert(0, given[0])
        n = given[0][0]
    return way


def hyp_is_right(book, paper, leant, way, step):
    """Whether a hyp behind this way is right; all nodes of the way are."""
    _, a, _, lefts, _ = step
    above = [m for m, _ in way]
    if a not in above or paper[a][1][0] != "again":
        return False

    def ties_to(begin, end):
        ties = all_ties(9)
        for m, k in way[begin:end]:
            ties = laid_on(ties, ties_of(book, leant[m])[k].arcs())
        return ties

    at = above.index(a)
    ties = ties_to(at, len(way))
    i = paper[a][1][1]
    if (i, lefts[i], True) not in ties:
        return False
    for outer in range(at):
        word, *row = paper[above[outer]][1]
        if word == "again":
            for here, x, _ in ties_to(outer, at):
                if here == row[0] and (x, lefts[x], True) not in ties \
                        and (x, lefts[x], False) not in ties:
                    return False
    return True


def plainly_first_wrong(book, paper):
    """The number of the first node of a plain paper that isn't right, or None."""
    words = {"again": "cases", "hyp": "fill"}
    leant = tuple([(claim, (words.get(step[0], step[0]), *step[1:])) for claim, step in paper])
    for n, (_, step) in enumerate(paper):
        goals = () if step[0] == "hyp" else plain_led(leant[n])[2]
        if [goal for goal in goals if goal is not None and goal <= n]:
            return n
        if not plainly_stands(book, leant, n) or plain_way(paper, n) is None:
            return n
        if step[0] == "hyp" and not hyp_is_right(book, paper, leant, plain_way(paper, n), step):
            return n
    return None
