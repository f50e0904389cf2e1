"""Ways through papers, and whether a paper has a ring along which nothing need ever fall."""

from leanround.errors import Loose, NoStep, TooMany
from leanround.papers import paper_stands
from leanround.steps import goals_of
from leanround.ties import ties_of


def way_ties(book, paper, way):
    """The ties of a way of one step or more."""
    steps = [ties_of(book, paper[node])[k] for node, k in way]
    ties = steps[0]
    for behind in steps[1:]:
        ties = ties.laid(behind)
    return ties


def steps_from(book, node):
    """The ways on from a node: (number of a goal, the goal, ties) for each that isn't None."""
    rows = list(zip(goals_of(node[1]), ties_of(book, node)))
    return [(k, goal, ties) for k, (goal, ties) in enumerate(rows) if goal is not None]


class Ways:
    """A way for each of the unlike (first node, last goal, ties) that ways of a paper have.

    Each is kept by that of which it is the way one step on, so that no way is kept
    whole, and the shortest ways are found first.
    """

    def __init__(self, book, paper, most):
        self.most = most
        self.steps = [steps_from(book, node) for node in paper]
        self.known = {}
        self.rows = []
        for node, steps in enumerate(self.steps):
            for k, goal, ties in steps:
                self.keep((node, goal, ties), None, (node, k))
        at = 0
        while at < len(self.rows):
            self.go_on(at)
            at += 1

    def keep(self, told, ahead, step):
        """Keeps what is told of a way, unless it is known: the way at ahead, then this step."""
        first, goal, ties = told
        key = (first, goal, ties.arcs())
        if key in self.known:
            return
        if len(self.rows) == self.most:
            raise TooMany(self.most)
        self.known[key] = True
        self.rows.append((told, ahead, step))

    def go_on(self, at):
        """Keeps what is told of the ways one step on from one kept."""
        (first, node, ties), _, _ = self.rows[at]
        for k, goal, behind in self.steps[node]:
            self.keep((first, goal, ties.laid(behind)), at, (node, k))

    def way_at(self, at):
        """The way kept there."""
        way = []
        while at is not None:
            _, ahead, step = self.rows[at]
            way.append(step)
            at = ahead
        return tuple(way[::-1])


def closed(book, paper, most=2000):
    """The unlike (n, m, ties) such that some way from node n to node m has these ties."""
    return [told for told, _, _ in Ways(book, paper, most).rows]


def look(book, paper, most=2000):
    """True where a paper is let by; else it is refused."""
    at = paper_stands(book, paper)
    if at is not None:
        raise NoStep(at)
    ways = Ways(book, paper, most)
    for row, (told, _, _) in enumerate(ways.rows):
        first, goal, ties = told
        if first == goal and ties.itself() and not ties.falls_on():
            raise Loose(ways.way_at(row))
    return True
