"""Papers made of papers: filled, joined at a saying, with a ring gone once more."""

from leanround.claims import claim_under, names_of, same_claim
from leanround.errors import NoJoin, NoNode
from leanround.steps import goals_of, renumbered, with_goals
from leanround.terms import names_in


def moved(paper, by):
    """The nodes of a paper with all their numbers so many more."""
    numbers = {n: n + by for n in range(len(paper))}
    return [renumbered(node, numbers) for node in paper]


def filled(paper, pairs):
    """The paper of the first claim under the pairs."""
    claim = paper[0][0]
    worth = {name: put for name, put in pairs}
    all_pairs = tuple([(name, worth.get(name, name)) for name in names_of(claim)])
    left, right = claim_under(claim, pairs)
    step = ("fill", 1, all_pairs, tuple(range(len(left))), tuple(range(len(right))))
    return (((left, right), step), *moved(paper, 1))


def joined(one, other):
    """The paper of (L, R), of one of (L, R, an atom) and one of (L, that atom, R)."""
    left, all_right = one[0][0]
    right, atom = all_right[:-1], all_right[-1]
    if not same_claim(other[0][0], ((*left, atom), right)):
        raise NoJoin()
    known = names_of((left, right))
    if not all([name in known for name in names_in(atom[1])]):
        raise NoJoin()
    step = ("put", atom, 1, 1 + len(one))
    return (((left, right), step), *moved(one, 1), *moved(other, 1 + len(one)))


def once_more(paper, n, k):
    """The paper in which goal k of node n is a new node, as the goal's is now."""
    if not 0 <= n < len(paper):
        raise NoNode(n)
    claim, step = paper[n]
    goals = list(goals_of(step))
    if not 0 <= k < len(goals) or goals[k] is None:
        raise NoNode(k)
    again = paper[goals[k]]
    goals[k] = len(paper)
    return (*paper[:n], (claim, with_goals(step, goals)), *paper[n + 1:], again)
