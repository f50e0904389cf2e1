"""Whether atoms of things hold, and why."""

from leanround.facts import Facts, laid_atom


def why_of(book, atom):
    """The first why of an atom of things, or None."""
    facts = Facts(book)
    return facts.why(facts.atom_under(laid_atom(atom), {}))


def holds(book, atom):
    """Whether an atom of things holds."""
    return why_of(book, atom) is not None


def is_why(book, why, atom):
    """Whether a why is one of an atom of things."""
    facts = Facts(book)
    waiting = [(why, facts.atom_under(laid_atom(atom), {}))]
    while waiting:
        (rule, whys), asked = waiting.pop()
        needs = facts.needs_by(asked, rule)
        if needs is None or len(needs) != len(whys):
            return False
        waiting.extend(list(zip(whys, needs)))
    return True


def rules_in(why):
    """How many rules stand in a why, each time counted."""
    many = 0
    waiting = [why]
    while waiting:
        waiting.extend(waiting.pop()[1])
        many += 1
    return many


def why_deep(why):
    """How deep a why is: 0 where its rule needs nothing."""
    level = why[1]
    depth = 0
    while level:
        level = [below for part in level for below in part[1]]
        depth += 1
    return depth
