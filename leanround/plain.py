"""Plain papers: inductions named as such, and how they lean back as papers do."""

from leanround.errors import NoPlain
from leanround.papers import stands
from leanround.rings import way_ties
from leanround.steps import goals_of


def leaning_step(step):
    """A step as it stands in a paper: again as cases, hyp as a fill."""
    if step[0] == "again":
        return ("cases", *step[1:])
    if step[0] == "hyp":
        return ("fill", *step[1:])
    return step


def leaning(paper):
    """The paper that a plain paper becomes: each again becomes cases, each hyp a fill."""
    return tuple([(claim, leaning_step(step)) for claim, step in paper])


def plain_goals(step):
    """The goals of a plain paper's step: what a hyp leads back to is none."""
    return () if step[0] == "hyp" else goals_of(step)


class PlainLook:
    """A look at the nodes of a plain paper, one by one, by rising numbers.

    Of each node that was let by the way down to it is kept, from the first node. The nodes
    on a way have their ties as they have them in the paper that the plain one becomes.
    """

    def __init__(self, book, paper):
        self.book = book
        self.steps = [step for _, step in paper]
        self.leant = leaning(paper)
        self.ways = []

    def lets_by(self, n):
        """Whether the node behind those let by is let by, too."""
        if not self.stands_below(n):
            return False
        if n == 0:
            self.ways.append([])
        else:
            led = self.givers(n)
            if len(led) != 1:
                return False
            m, k = led[0]
            self.ways.append([*self.ways[m], (m, k)])
        return self.steps[n][0] != "hyp" or self.hyp_holds(n)

    def stands_below(self, n):
        """Whether a node stands, with goals of greater numbers."""
        goals = plain_goals(self.steps[n])
        if not all([goal is None or goal > n for goal in goals]):
            return False
        return stands(self.book, self.leant, n)

    def givers(self, n):
        """(m, k) for each goal, the k-th of a node m of a lesser number, that node n is."""
        return [(m, k) for m in range(n)
                for k, goal in enumerate(plain_goals(self.steps[m])) if goal == n]

    def hyp_holds(self, n):
        """Whether the hyp at node n leads to an again above, and by ties that it may."""
        _, a, _, lefts, _ = self.steps[n]
        way = self.ways[n]
        above = [node for node, _ in way]
        if a not in above or self.steps[a][0] != "again":
            return False
        at = above.index(a)
        arcs = self.arcs(way[at:])
        i = self.steps[a][1]
        if (i, lefts[i], True) not in arcs:
            return False
        known = [(here, there) for here, there, _ in arcs]
        return all([(x, lefts[x]) in known for x in self.to_be_kept(way[:at])])

    def to_be_kept(self, way):
        """The places at a way's end to which ties lead from what agains on it are by."""
        return [there for at, (outer, _) in enumerate(way) if self.steps[outer][0] == "again"
                for here, there, _ in self.arcs(way[at:]) if here == self.steps[outer][1]]

    def arcs(self, way):
        """The ties of a way of one step or more."""
        return way_ties(self.book, self.leant, way).arcs()


def look_plain(book, paper):
    """True where a plain paper is let by; else NoPlain with the first node that isn't."""
    looked = PlainLook(book, paper)
    for n in range(len(paper)):
        if not looked.lets_by(n):
            raise NoPlain(n)
    return True
