"""What the document says, done over again in slow and plain ways, to check the program by."""

import itertools

from leanround.fitting import fitted
from leanround.terms import names_in, under

LETTERS = "abcdefghijklmnopqrstuvwxyz"


def is_plain_name(text):
    return (isinstance(text, str) and 1 <= len(text) <= 8 and set(text) <= set(LETTERS)
            and text not in ("if", "to", "lefts"))


def plainly_matched(terms, others):
    """A dict of the names of the first row under which it is the other, or None."""
    worth = {}

    def go(one, other):
        if isinstance(one, str):
            return worth.setdefault(one, other) == other
        return (isinstance(other, tuple) and one[0] == other[0] and len(one) == len(other)
                and all([go(a, b) for a, b in zip(one[1:], other[1:])]))

    if len(terms) == len(others) and all([go(a, b) for a, b in zip(terms, others)]):
        return worth
    return None


def put_into(term, worth):
    if isinstance(term, str):
        return worth.get(term, term)
    return (term[0], *[put_into(part, worth) for part in term[1:]])


def atoms_with(atoms, worth):
    return tuple([(name, tuple([put_into(term, worth) for term in terms]))
                  for name, terms in atoms])


def rules_named(book, name):
    return {saying[0]: saying[3] for saying in book[1]}[name]


def all_whys(book, atom):
    """All whys of an atom of things, in their order: by rules, then by the first one's .."""
    found = []
    for number, (heads, needs) in enumerate(rules_named(book, atom[0])):
        worth = plainly_matched(heads, atom[1])
        if worth is not None:
            rows = [all_whys(book, need) for need in atoms_with(needs, worth)]
            found.extend([(number, whys) for whys in itertools.product(*rows)])
    return found


def plain_why(book, atom):
    """The first why, without looking for all."""
    for number, (heads, needs) in enumerate(rules_named(book, atom[0])):
        worth = plainly_matched(heads, atom[1])
        if worth is None:
            continue
        whys = []
        for need in atoms_with(needs, worth):
            whys.append(plain_why(book, need))
            if whys[-1] is None:
                break
        else:
            return number, tuple(whys)
    return None


def plain_size(thing):
    return 1 + sum([plain_size(part) for part in thing[1:]])


def order_key(book, thing):
    places = [maker for maker, _ in book[0]]
    return (plain_size(thing), places.index(thing[0]),
            tuple([order_key(book, part) for part in thing[1:]]))


def all_things(book, most):
    """All things of at most this size, in order."""
    things = []
    for _ in range(most):
        made = {}
        for maker, takes in book[0]:
            for within in itertools.product(things, repeat=takes):
                thing = (maker, *within)
                if plain_size(thing) <= most:
                    made[thing] = True
        things = list(made)
    return sorted(things, key=lambda thing: order_key(book, thing))


def plain_names(claim):
    names = []

    def go(term):
        if isinstance(term, str):
            if term not in names:
                names.append(term)
        else:
            for part in term[1:]:
                go(part)

    for _, terms in claim[0] + claim[1]:
        for term in terms:
            go(term)
    return names


def plainly_against(book, claim, most):
    names = plain_names(claim)
    found = []
    for things in itertools.product(all_things(book, most), repeat=len(names)):
        total = sum([plain_size(thing) for thing in things])
        worth = dict(zip(names, things))
        if total <= most:
            left, right = atoms_with(claim[0], worth), atoms_with(claim[1], worth)
            if all([plain_why(book, atom) is not None for atom in left]) \
                    and all([plain_why(book, atom) is None for atom in right]):
                key = (total, tuple([order_key(book, thing) for thing in things]))
                found.append((key, worth))
    return min(found, key=lambda told: told[0])[1] if found else None


def plainly_alike(one, other):
    names, others = plain_names(one), plain_names(other)
    if len(names) != len(others):
        return False
    for order in itertools.permutations(others):
        worth = dict(zip(names, order))
        if (atoms_with(one[0], worth), atoms_with(one[1], worth)) == other:
            return True
    return False


def plain_due_of_cases(claim, at, rule):
    """The claim due by a rule, its names exchanged for ones told from the claim's by an x ahead."""
    left, right = claim
    heads, needs = rule
    names = plain_names(claim)
    apart = {}
    for name in names_in(heads):
        for many in range(1, 9):
            new = ("q" * many + name)[:8]
            if new not in names and new not in apart.values():
                apart[name] = new
    heads = tuple([put_into(head, apart) for head in heads])
    needs = atoms_with(needs, apart)
    pairs = fitted(left[at][1], heads)
    if pairs is None:
        return None
    atoms = left[:at] + needs + left[at + 1:]
    return tuple([tuple([(name, tuple([under(term, pairs) for term in terms]))
                         for name, terms in side]) for side in (atoms, right)])


class Wrong(Exception):
    """Something isn't as it must be."""


def need_be(told):
    if not told:
        raise Wrong()


def need_number(told):
    need_be(told.__class__ is int)


def need_term(book, told):
    if isinstance(told, str):
        need_be(is_plain_name(told))
    else:
        need_be(isinstance(told, tuple) and told and isinstance(told[0], str))
        need_be(dict(book[0]).get(told[0]) == len(told) - 1)
        for part in told[1:]:
            need_term(book, part)


def need_atom(book, told):
    need_be(isinstance(told, tuple) and len(told) == 2 and isinstance(told[1], tuple))
    many = [saying[1] for saying in book[1] if saying[0] == told[0]]
    need_be(many == [len(told[1])])
    for term in told[1]:
        need_term(book, term)


def need_claim(book, told):
    need_be(isinstance(told, tuple) and len(told) == 2 and told[1] != ())
    for side in told:
        need_be(isinstance(side, tuple))
        for atom in side:
            need_atom(book, atom)


def goal_claim_of(book, paper, goal):
    need_number(goal)
    need_be(0 <= goal < len(paper))
    need_claim(book, paper[goal][0])
    return paper[goal][0]


def at_place(atoms, place):
    need_number(place)
    need_be(0 <= place < len(atoms))
    return atoms[place]


def need_cases(book, paper, claim, i, goals):
    name, _ = at_place(claim[0], i)
    rules = rules_named(book, name)
    need_be(isinstance(goals, tuple) and len(goals) == len(rules))
    for rule, goal in zip(rules, goals):
        due = plain_due_of_cases(claim, i, rule)
        if due is None:
            need_be(goal is None)
        else:
            need_be(plainly_alike(due, goal_claim_of(book, paper, goal)))


def need_use(book, paper, claim, i, r, goals):
    left, right = claim
    name, terms = at_place(right, i)
    heads, needs = at_place(rules_named(book, name), r)
    worth = plainly_matched(heads, terms)
    need_be(worth is not None and isinstance(goals, tuple) and len(goals) == len(needs))
    for need, goal in zip(atoms_with(needs, worth), goals):
        due = (left, right[:i] + (need,) + right[i + 1:])
        need_be(goal_claim_of(book, paper, goal) == due)


def need_fill(book, paper, claim, goal, pairs, lefts, rights):
    goal_claim = goal_claim_of(book, paper, goal)
    need_be(isinstance(pairs, tuple))
    need_be(all([isinstance(pair, tuple) and len(pair) == 2 for pair in pairs]))
    need_be([name for name, _ in pairs] == plain_names(goal_claim))
    for _, term in pairs:
        need_term(book, term)
        need_be(set(names_in((term,))) <= set(plain_names(claim)))
    for side, goal_side, places in zip(claim, goal_claim, (lefts, rights)):
        need_be(isinstance(places, tuple))
        there = tuple([at_place(side, place) for place in places])
        need_be(there == atoms_with(goal_side, dict(pairs)))


def need_put(book, paper, claim, atom, one, other):
    left, right = claim
    need_atom(book, atom)
    need_be(set(names_in(atom[1])) <= set(plain_names(claim)))
    need_be(goal_claim_of(book, paper, one) == (left, right + (atom,)))
    need_be(goal_claim_of(book, paper, other) == (left + (atom,), right))


def need_same(claim, i, j):
    need_be(at_place(claim[0], i) == at_place(claim[1], j))


def plainly_stands(book, paper, n):
    claim, step = paper[n]
    try:
        need_claim(book, claim)
        need_be(isinstance(step, tuple) and len(step) > 0)
        word, *behind = step
        many = {"same": 2, "cases": 2, "use": 3, "fill": 4, "put": 3}
        need_be(isinstance(word, str) and many.get(word) == len(behind))
        if word == "same":
            need_same(claim, *behind)
        else:
            {"cases": need_cases, "use": need_use, "fill": need_fill, "put": need_put}[word](
                book, paper, claim, *behind)
    except Wrong:
        return False
    return True


def laid_on(one, other):
    """Ties as sets of arcs, laid on others."""
    arcs = {(a, c, f or g) for a, b, f in one for start, c, g in other if b == start}
    return frozenset([(a, b, f) for a, b, f in arcs if f or (a, b, True) not in arcs])


def plainly_closed(steps):
    """All (n, m, ties) of ways, of the (n, m, ties) of the steps, made by laying any on any."""
    found = set(steps)
    while True:
        more = {(n, k, laid_on(one, other)) for n, m, one in found
                for start, k, other in found if m == start}
        if more <= found:
            return found
        found |= more


def plainly_loose(closed):
    return any([n == m and laid_on(ties, ties) == ties
                and not any([a == b and falls for a, b, falls in ties])
                for n, m, ties in closed])
