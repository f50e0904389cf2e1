"""Steps: their goals, and what claims are due for these."""

from leanround.books import rules_of
from leanround.claims import atoms_put, claim_under, names_of, same_atom
from leanround.fitting import fitted, matched
from leanround.forms import is_atom
from leanround.terms import LETTERS, is_name, names_in, put_in


def goals_of(step):
    """The goals of a step, in order."""
    word = step[0]
    if word == "fill":
        return (step[1],)
    if word == "put":
        return step[2], step[3]
    if word == "same":
        return ()
    return tuple(step[-1])


def with_goals(step, goals):
    """The step with these goals, as many as it has, in the place of its own."""
    word = step[0]
    if word == "fill":
        return (word, goals[0], *step[2:])
    if word == "put":
        return word, step[1], goals[0], goals[1]
    if word == "same":
        return step
    return (*step[:-1], tuple(goals))


def renumbered(node, numbers):
    """The node with its goals led to the nodes that a dict has for them."""
    claim, step = node
    goals = [None if goal is None else numbers[goal] for goal in goals_of(step)]
    return claim, with_goals(step, goals)


def name_at(at):
    """The text of small letters of this number: those of one letter, then of two, .."""
    text = ""
    while at >= 0:
        text = LETTERS[at % len(LETTERS)] + text
        at = at // len(LETTERS) - 1
    return text


def new_names(many, taken):
    """So many names that aren't keys of a dict."""
    names = []
    at = 0
    while len(names) < many:
        name = name_at(at)
        if is_name(name) and name not in taken:
            names.append(name)
        at += 1
    return names


def rule_apart(rule, names):
    """A rule with other names for those of it that stand in a list of names."""
    heads, needs = rule
    own = names_in(heads)
    taken = {name: True for name in names}
    meant = [name for name in own if name in taken]
    others = new_names(len(meant), {name: True for name in [*names, *own]})
    worth = {name: other for name, other in zip(meant, others)}
    return tuple([put_in(head, worth) for head in heads]), atoms_put(needs, worth)


def due_by_rule(claim, at, rule):
    """The claim due for a goal of cases by a rule; None where the rule can't be fitted."""
    left, right = claim
    heads, needs = rule_apart(rule, names_of(claim))
    pairs = fitted(heads, left[at][1])
    if pairs is None:
        return None
    return claim_under(((*left[:at], *needs, *left[at + 1:]), right), pairs)


def due_of_same(claim, step):
    """No claims, or None where the two atoms aren't one."""
    left, right = claim
    _, i, j = step
    if not 0 <= i < len(left) or not 0 <= j < len(right):
        return None
    return [] if same_atom(left[i], right[j]) else None


def due_of_cases(book, claim, step):
    """A claim for each rule of an atom on the left, None where it can't be fitted."""
    left = claim[0]
    _, i, goals = step
    if not 0 <= i < len(left):
        return None
    rules = rules_of(book, left[i][0])
    if len(goals) != len(rules):
        return None
    return [due_by_rule(claim, i, rule) for rule in rules]


def due_of_use(book, claim, step):
    """A claim for each need of a rule by which an atom on the right may hold."""
    left, right = claim
    _, i, r, goals = step
    if not 0 <= i < len(right):
        return None
    rules = rules_of(book, right[i][0])
    if not 0 <= r < len(rules):
        return None
    heads, needs = rules[r]
    pairs = matched(heads, right[i][1])
    if pairs is None or len(goals) != len(needs):
        return None
    due = atoms_put(needs, {name: put for name, put in pairs})
    return [(left, (*right[:i], need, *right[i + 1:])) for need in due]


def led_to(atoms, goal_atoms, places):
    """Whether each atom of a goal is the one at its place."""
    if len(places) != len(goal_atoms):
        return False
    return all([0 <= place < len(atoms) and same_atom(atoms[place], atom)
                for place, atom in zip(places, goal_atoms)])


def due_of_fill(claim, step, goal_claim):
    """The goal's claim itself, where it is, filled, within this one."""
    _, _, pairs, lefts, rights = step
    if goal_claim is None or [name for name, _ in pairs] != names_of(goal_claim):
        return None
    # Each name of the goal's claim stands in an atom of it, so that a term with
    # names that this claim hasn't would lead to no atom here.
    left, right = claim_under(goal_claim, pairs)
    if not led_to(claim[0], left, lefts) or not led_to(claim[1], right, rights):
        return None
    return [goal_claim]


def due_of_put(book, claim, step):
    """The claims with an atom behind the right, and behind the left."""
    left, right = claim
    atom = step[1]
    if not is_atom(book, atom):
        return None
    known = names_of(claim)
    if not all([name in known for name in names_in(atom[1])]):
        return None
    return [(left, (*right, atom)), ((*left, atom), right)]


def claims_due(book, claim, step, goal_claim=None):
    """The claims due for a step's goals, None for a goal that must be None; or None.

    How many goals there are is looked at, but not which they are.
    """
    word = step[0]
    if word == "same":
        return due_of_same(claim, step)
    if word == "cases":
        return due_of_cases(book, claim, step)
    if word == "use":
        return due_of_use(book, claim, step)
    if word == "fill":
        return due_of_fill(claim, step, goal_claim)
    return due_of_put(book, claim, step)
