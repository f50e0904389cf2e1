"""Which atoms of things hold in a book, each looked at once."""

from leanround.books import rules_of
from leanround.terms import parts, sign


def laid_out(term):
    """The signs of a term's parts, from the last one to the first."""
    return [sign(part) for part in reversed(parts(term))]


def laid_atom(atom):
    """An atom's saying, and its terms laid out."""
    saying, terms = atom
    return saying, [laid_out(term) for term in terms]


def laid_rule(rule):
    """A rule's heads, and its needs laid out."""
    heads, needs = rule
    return heads, [laid_atom(need) for need in needs]


class Facts:
    """A book's things by numbers, and the first whys of atoms that were asked for.

    Each thing has one number, by its maker and the numbers of the things within:
    so things are told apart at once, however large they grow by needs, and an atom
    of them, (saying, number, ..), can be kept by.
    """

    def __init__(self, book):
        self.book = book
        self.laid_rules = {}
        self.numbers = {}
        self.fronts = []
        self.whys = {}

    def rules_for(self, saying):
        """The rules of a saying, laid out when they are first asked for."""
        if saying not in self.laid_rules:
            self.laid_rules[saying] = [laid_rule(rule) for rule in rules_of(self.book, saying)]
        return self.laid_rules[saying]

    def number_of(self, front):
        """The number of what has this maker and things within of these numbers."""
        if front not in self.numbers:
            self.numbers[front] = len(self.fronts)
            self.fronts.append(front)
        return self.numbers[front]

    def number_under(self, laid, worth):
        """The number of a term laid out, with these numbers for its names."""
        built = []
        for mark in laid:
            if isinstance(mark, str):
                built.append(worth[mark])
            else:
                maker, many = mark
                within = [built.pop() for _ in range(many)]
                built.append(self.number_of((maker, *within)))
        return built[0]

    def number(self, thing):
        """The number of a thing."""
        return self.number_under(laid_out(thing), {})

    def things_to(self, number):
        """The things of all numbers to this one."""
        things = []
        # What stands within has a lesser number, as it was given one ahead.
        for maker, *below in self.fronts[:number + 1]:
            within = [things[at] for at in below]
            things.append((maker, *within))
        return things

    def atom_under(self, laid, worth):
        """The atom of numbers that an atom laid out is, with these numbers for its names."""
        saying, terms = laid
        numbers = [self.number_under(term, worth) for term in terms]
        return (saying, *numbers)

    def matched_numbers(self, heads, numbers):
        """A dict from the heads' names to numbers under which they are these; or None."""
        if len(heads) != len(numbers):
            return None
        worth = {}
        waiting = list(zip(heads, numbers))
        while waiting:
            term, number = waiting.pop()
            if isinstance(term, str):
                if worth.setdefault(term, number) != number:
                    return None
            else:
                front = self.fronts[number]
                if front[0] != term[0] or len(front) != len(term):
                    return None
                if len(term) > 1:
                    waiting.extend(list(zip(term[1:], front[1:])))
        return worth

    def needs_by(self, atom, rule):
        """The atoms that this one needs by the rule of this number; None if it isn't one of it."""
        rules = self.rules_for(atom[0])
        if not 0 <= rule < len(rules):
            return None
        heads, needs = rules[rule]
        worth = self.matched_numbers(heads, atom[1:])
        if worth is None:
            return None
        return [self.atom_under(need, worth) for need in needs]

    def lacking(self, atom, rows):
        """An atom that must be looked at ahead; or None, and this one's why is kept now.

        The rows are what the atom needs by its first rules, so far as it was asked for.
        """
        for rule in range(len(self.rules_for(atom[0]))):
            if rule == len(rows):
                rows.append(self.needs_by(atom, rule))
            if rows[rule] is None:
                continue
            whys = []
            for need in rows[rule]:
                if need not in self.whys:
                    return need
                if self.whys[need] is None:
                    break
                whys.append(self.whys[need])
            if len(whys) == len(rows[rule]):
                self.whys[atom] = (rule, tuple(whys))
                return None
        self.whys[atom] = None
        return None

    def why(self, asked):
        """The first why of an atom of numbers, or None."""
        rows = {}
        waiting = [asked]
        while waiting:
            atom = waiting[-1]
            if atom in self.whys:
                waiting.pop()
                continue
            need = self.lacking(atom, rows.setdefault(atom, []))
            if need is not None:
                waiting.append(need)
        return self.whys[asked]
