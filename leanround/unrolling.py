"""Unrolling papers, for any things and any whys of what stands on the first claim's left."""

from leanround.bare import bare
from leanround.leads import lead_of, things_along
from leanround.running import Run, run_out


class Unrolling:
    """A paper unrolled from node 0, a node gone into at each turn.

    What is told hangs on the whys alone; the things are made out only when it is asked
    where the unrolling stands, and then kept for those nodes that wait.
    """

    def __init__(self, book, paper, things, whys):
        self._book = book
        self._paper = paper
        self._run = Run(bare(paper), whys)
        self._leads = {}
        self._things = [dict(things)]

    def turn(self):
        """Goes into a node; False where all was told already."""
        turned = self._run.turn()
        # Only those that wait now had their things made out ahead, if any.
        del self._things[len(self._run.waiting):]
        return turned

    def stand(self):
        """(n, things, whys) of the node that the next turn goes into; None when all is told."""
        if self._run.ahead is None:
            return None
        n, whys = self._run.ahead
        while len(self._things) <= len(self._run.waiting):
            node, k, _, _ = self._run.waiting[len(self._things) - 1]
            self._things.append(things_along(self._lead(node, k), self._things[-1]))
        return n, dict(self._things[-1]), whys

    def _lead(self, n, k):
        """The lead from a node to this goal of it, made out when it is first asked for."""
        if (n, k) not in self._leads:
            self._leads[n, k] = lead_of(self._book, self._paper, n, k)
        return self._leads[n, k]

    def outcome(self):
        """None till all is told, then (j, why)."""
        return self._run.outcome()

    def __len__(self):
        return len(self._run)


def unrolled(book, paper, things, whys, most=5000):
    """What the paper, unrolled by these things and whys, tells: (j, why, gone); or TooLong."""
    return run_out(Unrolling(book, paper, things, whys), most)
