"""Plain papers for the tests: some written out, others by a random source told."""

from leanround.claims import names_of
from sample_papers import a_fill, due_for, even, nat, odd, s, steps_for, with_goals, within_bounds
from samples import ZERO, any_atom


def plus(x, y, z):
    return ("plus", (x, y, z))


# x and 0 are x, by one again.
PLAIN_ZERO = (
    (((nat("x"),), (plus("x", ZERO, "x"),)), ("again", 0, (1, 2))),
    (((), (plus(ZERO, ZERO, ZERO),)), ("use", 0, 0, ())),
    (((nat("w"),), (plus(s("w"), ZERO, s("w")),)), ("use", 0, 1, (3,))),
    (((nat("w"),), (plus("w", ZERO, "w"),)), ("hyp", 0, (("x", "w"),), (0,), (0,))),
)

# Even numbers are numbers: the left falls twice on the way to the hyp.
PLAIN_EVEN = (
    (((even("x"),), (nat("x"),)), ("again", 0, (1, 2))),
    (((), (nat(ZERO),)), ("use", 0, 0, ())),
    (((odd("y"),), (nat(s("y")),)), ("use", 0, 1, (3,))),
    (((odd("y"),), (nat("y"),)), ("cases", 0, (4,))),
    (((even("x"),), (nat(s("x")),)), ("use", 0, 1, (5,))),
    (((even("x"),), (nat("x"),)), ("hyp", 0, (("x", "x"),), (0,), (0,))),
)

# An again within another: the inner one falls by y while x stays, the outer one by x.
LESS = ("le", (ZERO, "x"))
TWO_AGAINS = (
    (((nat("x"), nat("y")), (LESS,)), ("again", 0, (1, 2))),
    (((nat("y"),), (("le", (ZERO, ZERO)),)), ("use", 0, 0, ())),
    (((nat("x"), nat("y")), (("le", (ZERO, s("x"))),)), ("again", 1, (3, 5))),
    (((nat("x"),), (("le", (ZERO, s("x"))),)), ("use", 0, 1, (4,))),
    (((nat("x"),), (LESS,)), ("put", nat(ZERO), 6, 7)),
    (((nat("x"), nat("y")), (("le", (ZERO, s("x"))),)),
     ("hyp", 2, (("x", "x"), ("y", "y")), (0, 1), (0,))),
    (((nat("x"),), (LESS, nat(ZERO))), ("use", 1, 0, ())),
    (((nat("x"), nat(ZERO)), (LESS,)), ("hyp", 0, (("x", "x"), ("y", ZERO)), (0, 1), (0,))),
)


class Growing:
    """A plain paper that grows by a random source, node by node, as one would read it."""

    def __init__(self, rng, book, most):
        self.rng = rng
        self.book = book
        self.most = most
        self.nodes = []

    def steps_at(self, claim, agains):
        """Steps to be tried: those of papers with some cases as agains, and hyps to agains."""
        rng = self.rng
        steps = []
        for step in steps_for(rng, self.book, [claim], 0):
            if step[0] == "cases" and rng.random() < 0.8:
                step = ("again", *step[1:])
            if step[0] != "fill":
                steps.append(step)
        if names_of(claim) and rng.random() < 0.3:
            steps.insert(0, ("put", any_atom(rng, self.book, names_of(claim), 2), None, None))
        hyps = [a_fill(rng, claim, a, self.nodes[a][0]) for a in agains]
        hyps = [("hyp", *fill[1:]) for fill in hyps if fill is not None]
        if rng.random() < 0.8:
            return hyps + steps
        return steps + hyps

    def put(self, claim, agains, deep):
        """Puts the nodes for a claim; their first one's number, or None where none was found."""
        if deep == 0 or len(self.nodes) >= self.most or not within_bounds(claim):
            return None
        n = len(self.nodes)
        for step in self.steps_at(claim, agains)[:5]:
            self.nodes.append((claim, None))
            led = self.goals_for(claim, step, [*agains, n] if step[0] == "again" else agains, deep)
            if led is not None:
                self.nodes[n] = (claim, led)
                return n
            del self.nodes[n:]
        return None

    def goals_for(self, claim, step, agains, deep):
        """The step with the goals put for it; or None."""
        if step[0] == "hyp":
            return step
        word = "cases" if step[0] == "again" else step[0]
        dues = due_for(self.book, claim, (word, *step[1:]), [])
        if dues is None:
            return None
        goals = []
        for due in dues:
            goals.append(None if due is None else self.put(due, agains, deep - 1))
            if due is not None and goals[-1] is None:
                return None
        led = with_goals((word, *step[1:]), goals)
        return (step[0], *led[1:])


def any_plain(rng, book, claim, most, deep=7):
    """A plain paper of the claim that stands but perhaps for its hyps' ties; or None."""
    growing = Growing(rng, book, most)
    if growing.put(claim, [], deep) is None:
        return None
    return tuple(growing.nodes)


class NumbersFalling(Growing):
    """A plain paper of claims of numbers on the left, for one that holds: nought is even.

    So each claim can be led to any again above, and only the ties tell which hyps hold.
    """

    def put(self, claim, agains, deep):
        left, right = claim
        n = len(self.nodes)
        self.nodes.append((claim, None))
        step = self.number_step(left, len(right), agains, deep)
        if step[0] == "hyp":
            fill = a_fill(self.rng, claim, step[1], self.nodes[step[1]][0])
            step = ("use", 0, 0, ()) if fill is None else ("hyp", *fill[1:])
        elif step[0] == "fill":
            step = self.fill_at(claim, agains, deep)
        else:
            step = self.goals_for(claim, step, [*agains, n] if step[0] == "again" else agains, deep)
        self.nodes[n] = (claim, step)
        return n

    def fill_at(self, claim, agains, deep):
        """A fill that exchanges numbers, leaves some out or doubles them, of one's own claim."""
        wide = self.rng.randrange(1, 4)
        goal_claim = (tuple([nat(name) for name in "xyz"[:wide]]), (even(ZERO),))
        goal = len(self.nodes)
        fill = a_fill(self.rng, claim, goal, goal_claim)
        self.put(goal_claim, agains, deep - 1)
        return fill

    def number_step(self, left, many, agains, deep):
        """A step without goals for a claim of numbers."""
        rng = self.rng
        names = [at for at, (_, terms) in enumerate(left) if isinstance(terms[0], str)]
        if many > 1 or not names or (deep <= 0 and not agains):
            return ("use", 0, 0, ())
        chance = rng.random()
        if agains and (deep <= 0 or chance < 0.3):
            return ("hyp", rng.choice(agains))
        if chance < 0.45 and len(left) < 4:
            return ("put", nat(ZERO), None, None)
        if chance < 0.6:
            return ("fill",)
        return (rng.choice(["again", "again", "cases"]), rng.choice(names), ())


def falling(rng, book, wide, deep):
    """A plain paper of claims of so many numbers at first, which stands but for its hyps' ties."""
    growing = NumbersFalling(rng, book, 40)
    growing.put((tuple([nat(name) for name in "xyz"[:wide]]), (even(ZERO),)), [], deep)
    return tuple(growing.nodes)
