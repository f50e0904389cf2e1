"""Rows of terms matched with others, and rows fitted to one another."""

from leanround.terms import names_in, parts, same, sign


def matched(terms, others):
    """The pairs, one for each name of the first row, under which it is the other; or None."""
    if len(terms) != len(others):
        return None
    found = {}
    waiting = list(zip(terms[::-1], others[::-1]))
    while waiting:
        term, other = waiting.pop()
        if not isinstance(term, str):
            if sign(term) != sign(other):
                return None
            waiting.extend(list(zip(term[:0:-1], other[:0:-1])))
        elif term not in found:
            found[term] = other
        elif not same(found[term], other):
            return None
    return tuple(found.items())


class Net:
    """Terms laid out as numbered places, of which some are made one.

    A name has one place, however often it stands. Places made one lead, by one
    another, to one of them, their root, which is a maker's where one of them is.
    """

    def __init__(self):
        self.signs = []
        self.below = []
        self.leads = []
        self.name_places = {}

    def new_place(self, told, below):
        """A place with this sign, with the places of the terms in it."""
        place = len(self.signs)
        self.signs.append(told)
        self.below.append(below)
        self.leads.append(place)
        return place

    def name_place(self, name):
        """The one place of a name."""
        if name not in self.name_places:
            self.name_places[name] = self.new_place(name, [])
        return self.name_places[name]

    def lay(self, term):
        """Lays a term out, and tells its place."""
        laid = []
        for part in reversed(parts(term)):
            if isinstance(part, str):
                laid.append(self.name_place(part))
            else:
                below = [laid.pop() for _ in part[1:]]
                laid.append(self.new_place(sign(part), below))
        return laid[0]

    def root(self, place):
        """The place to which a place leads in the end."""
        while self.leads[place] != place:
            self.leads[place] = self.leads[self.leads[place]]
            place = self.leads[place]
        return place

    def roots_below(self, place):
        """The roots of the terms in a place."""
        return [self.root(below) for below in self.below[place]]

    def make_one(self, one, other):
        """Makes two places one, and what stands in them; False where makers are unlike."""
        waiting = [(one, other)]
        while waiting:
            first, second = waiting.pop()
            first, second = self.root(first), self.root(second)
            if first == second:
                continue
            if isinstance(self.signs[first], str):
                self.leads[first] = second
            elif isinstance(self.signs[second], str):
                self.leads[second] = first
            elif self.signs[first] != self.signs[second]:
                return False
            else:
                self.leads[first] = second
                waiting.extend(list(zip(self.below[first], self.below[second])))
        return True

    def inmost_first(self, places):
        """The roots of these and of all in them, each behind those in it; None of a ring."""
        order = []
        done = {}
        waiting = [self.root(place) for place in places]
        while waiting:
            place = waiting[-1]
            if place in done:
                waiting.pop()
                if not done[place]:
                    done[place] = True
                    order.append(place)
                continue
            done[place] = False
            for below in self.roots_below(place):
                if below not in done:
                    waiting.append(below)
                elif not done[below]:
                    return None
        return order

    def terms_at(self, order):
        """A dict from the places of such an order to their terms."""
        told = {}
        for place in order:
            front = self.signs[place]
            if isinstance(front, str):
                told[place] = front
            else:
                within = [told[below] for below in self.roots_below(place)]
                told[place] = (front[0], *within)
        return told


def fitted(terms, others):
    """The most general pairs under which both rows are the same; or None."""
    if len(terms) != len(others):
        return None
    net = Net()
    firsts = [net.lay(term) for term in terms]
    seconds = [net.lay(other) for other in others]
    for first, second in zip(firsts, seconds):
        if not net.make_one(first, second):
            return None
    # That a name is within its own term is seen here for all names at once: looked
    # for pair by pair it would take far longer for names fitted by one another.
    order = net.inmost_first(firsts)
    if order is None:
        return None
    told = net.terms_at(order)
    names = names_in((*terms, *others))
    roots = [net.root(net.name_places[name]) for name in names]
    return tuple([(name, told[root]) for name, root in zip(names, roots) if told[root] != name])
