"""How things go along from a node to a goal of it."""

from leanround.books import rules_of
from leanround.claims import names_of, terms_of
from leanround.fitting import matched
from leanround.steps import due_by_rule, goals_of, rule_apart
from leanround.terms import put_in


def all_terms(claim):
    """All terms of a claim, left ahead of right."""
    left, right = claim
    return terms_of((*left, *right))


def lead_of_case(book, claim, i, r, goal_claim):
    """The lead to the goal by this rule of cases."""
    saying, terms = claim[0][i]
    rule = rules_of(book, saying)[r]
    heads, _ = rule_apart(rule, names_of(claim))
    # The goal's claim is alike to the one that is due, so these pairs have names for names.
    pairs = matched(all_terms(goal_claim), all_terms(due_by_rule(claim, i, rule)))
    return heads, terms, pairs


def lead_of(book, paper, n, k):
    """The lead from a node to this goal of it: (heads, terms, pairs).

    The heads' names have what stands there in the terms, under the things here; each
    pair has a name of the goal, and what that is by the names here and of the heads.
    """
    claim, step = paper[n]
    goal_claim = paper[goals_of(step)[k]][0]
    if step[0] == "cases":
        return lead_of_case(book, claim, step[1], k, goal_claim)
    if step[0] == "fill":
        return (), (), step[2]
    return (), (), tuple([(name, name) for name in names_of(goal_claim)])


def things_met(heads, row):
    """A dict from names of the heads to what stands there in a row of things.

    A name that stands twice isn't looked at twice: the row is known to be one of these
    heads, and things may have one part in more places than can be gone through.
    """
    met = {}
    waiting = list(zip(heads, row))
    while waiting:
        term, thing = waiting.pop()
        if isinstance(term, str):
            met[term] = thing
        else:
            waiting.extend(list(zip(term[1:], thing[1:])))
    return met


def things_along(lead, things):
    """The things for the names of a goal, by the lead to it and the things here."""
    heads, terms, pairs = lead
    met = things_met(heads, [put_in(term, things) for term in terms])
    worth = {**things, **met}
    return {name: put_in(term, worth) for name, term in pairs}
