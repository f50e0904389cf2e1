"""Papers with like nodes made one, and without nodes that aren't come to."""

from leanround.steps import goals_of, renumbered, with_goals


def goals_led(step, numbers):
    """What a list has for each goal of a step, None for a goal that is None."""
    return [None if goal is None else numbers[goal] for goal in goals_of(step)]


def without_goals(node):
    """A node with None for each of its goals."""
    claim, step = node
    return claim, with_goals(step, [None for _ in goals_of(step)])


def places_of_first(rows):
    """For each of some rows the place of the first one that is the same.

    They are compared one by one: a claim's terms stand too deep for a dict's keys.
    """
    return [rows.index(row) for row in rows]


def gathered(paper):
    """The paper with nodes made one, as many as can be, that are the same but for goals."""
    steps = [step for _, step in paper]
    firsts = places_of_first([without_goals(node) for node in paper])
    parted = True
    while parted:
        # Nodes that may be one are parted where goals of them are parted, or where one's
        # is None and the other's isn't; till none are.
        rows = [(first, goals_led(step, firsts)) for first, step in zip(firsts, steps)]
        finer = places_of_first(rows)
        parted = finer != firsts
        firsts = finer
    kept = [n for n, first in enumerate(firsts) if n == first]
    numbers = {n: kept.index(first) for n, first in enumerate(firsts)}
    return tuple([renumbered(paper[n], numbers) for n in kept])


def trimmed(paper):
    """The nodes that are come to from node 0, numbered as they are first come to."""
    numbers = {}
    waiting = [0]
    while waiting:
        n = waiting.pop()
        if n not in numbers:
            numbers[n] = len(numbers)
            goals = goals_of(paper[n][1])
            waiting.extend([goal for goal in goals[::-1] if goal is not None])
    return tuple([renumbered(paper[n], numbers) for n in numbers])
