"""A desk that keeps a book and papers, and is asked with rows."""

from leanround.against import against
from leanround.books import are_terms, look_book, takes_of
from leanround.claims import claim_under, names_of
from leanround.errors import Loose, NoRow, NoStep, TooLong, TooMany, Unknown
from leanround.forms import is_claim
from leanround.reader import read_book, read_paper, terms_in, words_of
from leanround.rings import look
from leanround.terms import is_name, names_in
from leanround.unrolling import unrolled
from leanround.whys import why_of
from leanround.writer import claim_text, term_text

MOST_WAYS = 500
MOST_GONE = 2000
SIZES = ("0", "1", "2", "3", "4", "5")
LET_BY = "let by"


def told_text(text):
    """A row's TEXT with a line feed for each ` ; ` in it."""
    if text == "":
        raise NoRow()
    return text.replace(" ; ", "\n")


def look_told(book, paper):
    """What is told of a paper that is looked at."""
    try:
        look(book, paper, MOST_WAYS)
    except NoStep as lacking:
        return f"no step {lacking.at}"
    except TooMany:
        return "too many"
    except Loose as refused:
        return "loose " + " ".join([str(n) for n, _ in refused.ring])
    return LET_BY


def against_told(book, claim, most):
    """What is told of the least things that speak against a claim."""
    things = against(book, claim, most)
    if things is None:
        return "none"
    if len(things) == 0:
        return "always"
    return " , ".join([name + " " + term_text(things[name]) for name in names_of(claim)])


def are_things_for(book, names, terms):
    """Whether terms are things of the book's makers, as many as there are names."""
    return (len(terms) == len(names) and len(names_in(terms)) == 0
            and are_terms(takes_of(book), terms))


def unroll_told(book, paper, pairs):
    """What is told of a paper that is unrolled by these things and their first whys."""
    whys = []
    for at, atom in enumerate(claim_under(paper[0][0], pairs)[0]):
        why = why_of(book, atom)
        if why is None:
            return f"not so {at}"
        whys.append(why)
    things = {name: thing for name, thing in pairs}
    try:
        j, _, gone = unrolled(book, paper, things, whys, MOST_GONE)
    except TooLong:
        return "too long"
    return f"{j} gone {gone}"


class Desk:
    """Keeps one book, and papers by names."""

    def __init__(self):
        self._book = None
        self._papers = {}

    def say(self, row):
        """What is told of a row; or it is refused, and nothing is changed."""
        if "\n" in row:
            raise NoRow()
        word, _, rest = row.partition(" ")
        if word == "book":
            return self._keep_book(told_text(rest))
        name, _, behind = rest.partition(" ")
        if not is_name(name):
            raise NoRow()
        if word == "paper":
            return self._keep_paper(name, told_text(behind))
        return self._say_of(word, name, words_of(rest)[1:])

    def _say_of(self, word, name, words):
        """What is told of a row that asks for the paper of this name."""
        if word == "look" and len(words) == 0:
            return look_told(self._book, self._paper_named(name))
        if word == "claim" and len(words) == 0:
            return claim_text(self._paper_named(name)[0][0])
        if word == "against" and len(words) == 1 and words[0] in SIZES:
            return against_told(self._book, self._paper_named(name)[0][0], int(words[0]))
        if word == "unroll":
            return self._unroll(name, words)
        raise NoRow()

    def _paper_named(self, name):
        """The paper that is kept by this name."""
        if name not in self._papers:
            raise Unknown(name)
        return self._papers[name]

    def _keep_book(self, text):
        """Keeps the book of this text; all papers go."""
        book = read_book(text)
        look_book(book)
        self._book = book
        self._papers = {}
        return "kept"

    def _keep_paper(self, name, text):
        """Keeps the paper of this text, whether it stands or not."""
        paper = read_paper(text)
        if self._book is None or not all([is_claim(self._book, claim) for claim, _ in paper]):
            raise NoRow()
        self._papers[name] = paper
        return f"nodes {len(paper)}"

    def _unroll(self, name, words):
        """What is told of the paper of this name, unrolled by the things of these words."""
        terms = terms_in(words)
        if terms is None:
            raise NoRow()
        paper = self._paper_named(name)
        names = names_of(paper[0][0])
        if not are_things_for(self._book, names, terms):
            raise NoRow()
        if look_told(self._book, paper) != LET_BY:
            raise NoRow()
        return unroll_told(self._book, paper, tuple(zip(names, terms)))
