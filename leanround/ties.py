"""Ties between what stands on the left of a claim and of a goal's."""

from leanround.books import rules_of
from leanround.steps import goals_of


def arc_text(here, there, falls):
    """The text of a tie."""
    return f"{here}>{there}!" if falls else f"{here}>{there}"


class Ties:
    """Ties from one left to another, one for each two places."""

    def __init__(self, arcs):
        falls_at = {}
        for here, there, falls in arcs:
            falls_at[here, there] = falls or falls_at.get((here, there), False)
        self._kept = tuple([(here, there, falls_at[here, there])
                            for here, there in sorted(list(falls_at))])

    def arcs(self):
        """The ties, rising."""
        return self._kept

    def laid(self, other):
        """These, and behind them the others."""
        return Ties([(here, there, falls or then)
                     for here, between, falls in self._kept
                     for start, there, then in other.arcs() if start == between])

    def itself(self):
        """Whether these laid on themselves are the same."""
        return self.laid(self).arcs() == self._kept

    def falls_on(self):
        """Whether one falls from a place to that place."""
        return any([here == there and falls for here, there, falls in self._kept])

    def __eq__(self, other):
        return isinstance(other, Ties) and self._kept == other._kept

    def __len__(self):
        return len(self._kept)

    def __str__(self):
        if len(self._kept) == 0:
            return "none"
        return " ".join([arc_text(here, there, falls) for here, there, falls in self._kept])


def ties_staying(many):
    """The ties of a goal on whose left all that stands here stands as it does."""
    return Ties([(at, at, False) for at in range(many)])


def ties_of_case(many, i, needs):
    """The ties where so many needs stand in the place of the i-th of so many on the left."""
    ahead = [(at, at, False) for at in range(i)]
    within = [(i, i + at, True) for at in range(needs)]
    behind = [(at, at - 1 + needs, False) for at in range(i + 1, many)]
    return Ties(ahead + within + behind)


def ties_of(book, node):
    """The ties of a node's step for each of its goals, None where the goal is None."""
    (left, _), step = node
    word = step[0]
    told = []
    for at, goal in enumerate(goals_of(step)):
        if goal is None:
            told.append(None)
        elif word == "cases":
            i = step[1]
            _, needs = rules_of(book, left[i][0])[at]
            told.append(ties_of_case(len(left), i, len(needs)))
        elif word == "fill":
            told.append(Ties([(place, p, False) for p, place in enumerate(step[3])]))
        else:
            told.append(ties_staying(len(left)))
    return told
