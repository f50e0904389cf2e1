"""Terms, claims, books and papers read from their texts.

What is made of words here tells None where the words are none of the kind asked for.
"""

from leanround.errors import BadText
from leanround.terms import deep, is_name

FIGURES = "0123456789"
MOST_FIGURES = 4
DEEPEST = 30


def words_of(row):
    """The words of a row, parted by single blanks: none are without signs but where it is wrong."""
    return row.split(" ")


def number_in(word):
    """The number that a word is, by its figures."""
    if not 1 <= len(word) <= MOST_FIGURES or not all([sign in FIGURES for sign in word]):
        return None
    if len(word) > 1 and word[0] == "0":
        return None
    return int(word)


def all_or_none(row):
    """A row as a tuple; None where one of it is None."""
    return None if any([told is None for told in row]) else tuple(row)


def numbers_in(words):
    """The numbers that the words are."""
    return all_or_none([number_in(word) for word in words])


def terms_in(words):
    """The terms that the words are, one behind the other."""
    # A row for each bracket that isn't ended, behind that of the terms in none: there
    # may be more brackets within one another than Python calls itself.
    rows = [[]]
    for word in words:
        begun = len(rows) > 1 and len(rows[-1]) == 0
        if is_name(word):
            rows[-1].append(word)
        elif word == "(" and not begun:
            rows.append([])
        elif word == ")" and len(rows) > 1 and not begun:
            made = tuple(rows.pop())
            rows[-1].append(made)
        else:
            return None
    if len(rows) > 1 or not all([deep(term) <= DEEPEST for term in rows[0]]):
        return None
    return tuple(rows[0])


def parted(words, mark):
    """The rows of words ahead of, between and behind those that are the mark."""
    rows = [[]]
    for word in words:
        if word == mark:
            rows.append([])
        else:
            rows[-1].append(word)
    return rows


def atom_in(words):
    """The atom that the words are."""
    if len(words) < 2 or not is_name(words[0]):
        return None
    terms = terms_in(words[1:])
    return None if terms is None else (words[0], terms)


def atoms_in(rows):
    """The atoms that rows of words are, each one."""
    return all_or_none([atom_in(words) for words in rows])


def claim_in(words):
    """The claim that the words are."""
    sides = parted(words, "=>")
    if len(sides) != 2:
        return None
    left = () if len(sides[0]) == 0 else atoms_in(parted(sides[0], ","))
    return all_or_none([left, atoms_in(parted(sides[1], ","))])


def maker_in(words):
    """The maker that the words behind `maker` are."""
    if len(words) != 2 or not is_name(words[0]):
        return None
    return all_or_none([words[0], number_in(words[1])])


def front_in(words):
    """The saying without its rules that the words behind `saying` are."""
    if len(words) != 4 or not is_name(words[0]) or words[2] != "by":
        return None
    return all_or_none([words[0], number_in(words[1]), number_in(words[3])])


def rule_in(words):
    """The rule that the words behind `rule` are."""
    heads, *needs = parted(words, "if")
    if len(heads) == 0:
        return None
    return all_or_none([terms_in(heads), atoms_in(needs)])


def same_in(words):
    """The step that the words behind `same` are."""
    numbers = numbers_in(words)
    return None if numbers is None or len(numbers) != 2 else ("same", *numbers)


def cases_in(words):
    """The step that the words behind `cases` are."""
    numbers = [number_in(word) for word in words]
    if None in [number for number, word in zip(numbers, words) if word != "-"]:
        return None
    if len(numbers) == 0 or numbers[0] is None:
        return None
    return "cases", numbers[0], tuple(numbers[1:])


def use_in(words):
    """The step that the words behind `use` are."""
    numbers = numbers_in(words)
    if numbers is None or len(numbers) < 2:
        return None
    return "use", numbers[0], numbers[1], numbers[2:]


def pairs_in(words):
    """The pairs that the words are, names and terms by turns."""
    row = terms_in(words)
    if row is None or len(row) % 2 == 1:
        return None
    if not all([isinstance(name, str) for name in row[::2]]):
        return None
    return tuple(zip(row[::2], row[1::2]))


def fill_in(words):
    """The step that the words behind `fill` are."""
    front, *behind = parted(words, "lefts")
    if len(front) < 2 or front[1] != "with" or len(behind) != 1:
        return None
    places = parted(behind[0], "rights")
    if len(places) != 2:
        return None
    lefts, rights = places
    told = all_or_none([number_in(front[0]), pairs_in(front[2:]),
                        numbers_in(lefts), numbers_in(rights)])
    return None if told is None else ("fill", *told)


def put_step_in(words):
    """The step that the words behind `put` are."""
    if len(words) < 3 or words[-3] != "to":
        return None
    told = all_or_none([atom_in(words[:-3]), number_in(words[-2]), number_in(words[-1])])
    return None if told is None else ("put", *told)


STEP_READERS = {
    "same": same_in,
    "cases": cases_in,
    "use": use_in,
    "fill": fill_in,
    "put": put_step_in,
}


def step_in(words):
    """The step that the words of its row are."""
    if len(words) < 2 or words[0] != "by" or words[1] not in STEP_READERS:
        return None
    reader = STEP_READERS[words[1]]
    return reader(words[2:])


def read_term(text):
    """The term of this text, or BadText."""
    terms = terms_in(words_of(text))
    if terms is None or len(terms) != 1:
        raise BadText(0)
    return terms[0]


def read_claim(text):
    """The claim of this text, or BadText."""
    claim = claim_in(words_of(text))
    if claim is None:
        raise BadText(0)
    return claim


def put_row(words, makers, sayings):
    """Puts what a book's row tells behind what the rows ahead told; whether it can be one."""
    told = None
    if words[0] == "maker" and len(sayings) == 0:
        told = maker_in(words[1:])
        makers.append(told)
    elif words[0] == "saying":
        told = front_in(words[1:])
        sayings.append((told, []))
    elif words[0] == "rule" and len(sayings) > 0:
        told = rule_in(words[1:])
        sayings[-1][1].append(told)
    return told is not None


def read_book(text):
    """The book of this text, or BadText."""
    makers = []
    sayings = []
    rows = [] if text == "" else text.split("\n")
    for at, row in enumerate(rows):
        if not put_row(words_of(row), makers, sayings):
            raise BadText(at)
    return tuple(makers), tuple([(*front, tuple(rules)) for front, rules in sayings])


def read_paper(text):
    """The paper of this text, or BadText."""
    told = []
    for at, row in enumerate(text.split("\n")):
        words = words_of(row)
        part = claim_in(words) if at % 2 == 0 else step_in(words)
        if part is None:
            raise BadText(at)
        told.append(part)
    if len(told) % 2 == 1:
        raise BadText(len(told))
    return tuple(zip(told[::2], told[1::2]))
