"""Things that speak against a claim, and the order in which they are looked for."""

from leanround.claims import names_of
from leanround.facts import Facts, laid_atom
from leanround.terms import names_in, parts


def order_key(places, thing):
    """Size and place of the maker of each part of a thing, as parts tells them."""
    sizes = []
    keys = []
    for part in reversed(parts(thing)):
        many = 1 + sum([sizes.pop() for _ in part[1:]])
        sizes.append(many)
        keys.append((many, places[part[0]]))
    return keys[::-1]


def in_order(book, one, other):
    """Whether the first thing comes ahead of the second."""
    places = {maker: place for place, (maker, _) in enumerate(book[0])}
    # So far as the keys are the same the parts are told in step, so that the first
    # unlike ones are those of the outmost parts that are unlike, the first ones of these.
    return order_key(places, one) < order_key(places, other)


def speaks_against(book, claim, things):
    """Whether things for the names of a claim speak against it."""
    left, right = claim
    facts = Facts(book)
    worth = {name: facts.number(things[name]) for name in things}
    for atom in left:
        if facts.why(facts.atom_under(laid_atom(atom), worth)) is None:
            return False
    for atom in right:
        if facts.why(facts.atom_under(laid_atom(atom), worth)) is not None:
            return False
    return True


class Search:
    """The search for the least things that speak against a claim.

    Each atom is looked at as soon as its names have things, so that all that could
    stand behind these is passed over together.
    """

    def __init__(self, book, claim):
        self.facts = Facts(book)
        self.makers = book[0]
        self.names = names_of(claim)
        self.worth = {}
        self.sized = [[]]
        self.looks = [[] for _ in range(len(self.names) + 1)]
        left, right = claim
        for atom in left:
            self.looks[self.known_at(atom)].append((laid_atom(atom), True))
        for atom in right:
            self.looks[self.known_at(atom)].append((laid_atom(atom), False))

    def known_at(self, atom):
        """How many of the first names must have things so that all of this atom's have."""
        return max([0] + [self.names.index(name) + 1 for name in names_in(atom[1])])

    def new_size(self):
        """The numbers of the things of the least size that none were told of yet, in order."""
        within = len(self.sized) - 1
        fronts = []
        for maker, takes in self.makers:
            if takes == 0 and within == 0:
                fronts.append((maker,))
            if takes == 1:
                fronts.extend([(maker, one) for one in self.sized[within]])
            if takes == 2:
                fronts.extend([(maker, one, other) for first in range(1, within)
                               for one in self.sized[first]
                               for other in self.sized[within - first]])
        return [self.facts.number_of(front) for front in fronts]

    def of_size(self, asked):
        """The numbers of the things of this size, in order."""
        while len(self.sized) <= asked:
            self.sized.append(self.new_size())
        return self.sized[asked]

    def may_speak(self, at):
        """Whether what is known at this many names, and not ahead, is as it must be."""
        for laid, must_hold in self.looks[at]:
            atom = self.facts.atom_under(laid, self.worth)
            if (self.facts.why(atom) is not None) != must_hold:
                return False
        return True

    def found(self, at, left_over):
        """Whether things that speak against were found, the first names having theirs.

        They are put into worth; all from this name on are of this sum of sizes.
        """
        if not self.may_speak(at):
            return False
        behind = len(self.names) - at - 1
        if behind < 0:
            return left_over == 0
        least = 1 if behind > 0 else left_over
        for asked in range(least, left_over - behind + 1):
            for number in self.of_size(asked):
                self.worth[self.names[at]] = number
                if self.found(at + 1, left_over - asked):
                    return True
        return False

    def told(self):
        """The things found, by their names."""
        last = max([-1] + [self.worth[name] for name in self.names])
        things = self.facts.things_to(last)
        return {name: things[self.worth[name]] for name in self.names}


def against(book, claim, most=4):
    """The least things that speak against a claim, none of more than this sum; or None."""
    search = Search(book, claim)
    for total in range(len(search.names), most + 1):
        if search.found(0, total):
            return search.told()
    return None
