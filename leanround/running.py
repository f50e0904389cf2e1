"""Running a bare paper by whys alone, a node gone into at each turn."""

from leanround.errors import TooLong


class Run:
    """A bare paper that is run by whys.

    The nodes that wait for what a goal of them tells stand in a list, as there may be
    thousands. Of a why no more is looked at than its rule and the tuple of its parts:
    one part may stand in more places than can be gone through.
    """

    def __init__(self, rows, whys):
        self.rows = rows
        self.waiting = []
        self.ahead = (0, tuple(whys))
        self.result = None
        self.gone = 0

    def __len__(self):
        return len(range(self.gone))

    def outcome(self):
        """None till all is told, then (j, why)."""
        return self.result

    def turn(self):
        """Goes into the node that is ahead; False where all was told already."""
        if self.ahead is None:
            return False
        n, whys = self.ahead
        row = self.rows[n]
        word = row[0]
        self.gone += 1
        if word == "give":
            self.tell(row[2], whys[row[1]])
        elif word == "open":
            i = row[1]
            r, parts = whys[i]
            self.go_to((n, r, whys, ()), row[2][r], (*whys[:i], *parts, *whys[i + 1:]))
        elif word == "build" and len(row[3]) == 0:
            self.tell(row[1], (row[2], ()))
        elif word == "build":
            self.go_to((n, 0, whys, ()), row[3][0], whys)
        elif word == "lead":
            self.go_to((n, 0, whys, ()), row[1], tuple([whys[place] for place in row[2]]))
        else:
            self.go_to((n, 0, whys, ()), row[2], whys)
        return True

    def go_to(self, waits, goal, whys):
        """Has a node wait, and a goal of it, with these whys, ahead.

        Kept of the one that waits are its number, that of the goal among its goals, its
        whys, and the whys that the goals ahead of this one told.
        """
        self.waiting.append(waits)
        self.ahead = (goal, whys)

    def tell(self, j, why):
        """Tells those that wait, one by one, till one has another goal or none waits."""
        while self.waiting:
            n, k, whys, made = self.waiting.pop()
            row = self.rows[n]
            word = row[0]
            if word == "lead":
                j = row[3][j]
            elif word == "build" and j == row[1]:
                made = (*made, why)
                if len(made) < len(row[3]):
                    self.go_to((n, len(made), whys, made), row[3][len(made)], whys)
                    return
                why = (row[2], made)
            elif word == "ask" and k == 0 and j == row[1]:
                self.go_to((n, 1, whys, ()), row[3], (*whys, why))
                return
        self.ahead = None
        self.result = (j, why)


def run_out(run, most):
    """(j, why, gone) of a run, or of an unrolling, that is turned till all is told."""
    while run.outcome() is None:
        if len(run) >= most:
            raise TooLong(most)
        run.turn()
    j, why = run.outcome()
    return j, why, len(run)
