"""Papers: which of their nodes stand."""

from leanround.claims import alike, same_claim
from leanround.forms import is_claim, is_step
from leanround.steps import claims_due, goals_of


def goal_stands(book, paper, word, goal, due):
    """Whether a goal is right for the claim that is due for it, by a step of this word."""
    if goal is None or due is None:
        return goal is None and due is None
    claim = paper[goal][0]
    if not is_claim(book, claim):
        return False
    return alike(claim, due) if word == "cases" else same_claim(claim, due)


def stands(book, paper, n):
    """Whether the node of this number stands, whatever it and the others are."""
    claim, step = paper[n]
    if not is_claim(book, claim) or not is_step(book, step):
        return False
    goals = goals_of(step)
    if not all([goal is None or 0 <= goal < len(paper) for goal in goals]):
        return False
    goal_claim = None
    if step[0] == "fill":
        if goals[0] is None or not is_claim(book, paper[goals[0]][0]):
            return False
        goal_claim = paper[goals[0]][0]
    dues = claims_due(book, claim, step, goal_claim)
    if dues is None:
        return False
    return all([goal_stands(book, paper, step[0], goal, due) for goal, due in zip(goals, dues)])


def paper_stands(book, paper):
    """None, or the number of the first node that doesn't stand."""
    for n in range(len(paper)):
        if not stands(book, paper, n):
            return n
    return None
