"""Bare papers: rows of steps without claims, run by whys alone."""

from leanround.running import Run, run_out


def bare_row(node):
    """The row of a node."""
    (_, right), step = node
    word = step[0]
    if word == "same":
        return "give", step[1], step[2]
    if word == "cases":
        return "open", step[1], step[2]
    if word == "use":
        return "build", step[1], step[2], step[3]
    if word == "fill":
        return "lead", step[1], step[3], step[4]
    return "ask", len(right), step[2], step[3]


def bare(paper):
    """The bare paper: a row for each node."""
    return tuple([bare_row(node) for node in paper])


def run_bare(rows, whys, most=5000):
    """What the paper of these rows, run by these whys, tells: (j, why, gone); or TooLong."""
    return run_out(Run(rows, whys), most)
