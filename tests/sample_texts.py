"""Any terms, claims, books and papers that have texts, right or not, by a random source told."""

NAMES = ["x", "y", "a", "zz", "maker", "saying", "rule", "by", "same", "cases", "use", "fill",
         "with", "rights", "put", "abcdefgh", "zzzzzzzz", "nat", "iff", "too", "left", "of"]
NUMBERS = [0, 1, 2, 3, 9, 10, 19, 99, 100, 101, 999, 1000, 4040, 9999]


def text_term(rng, most=6):
    """A term of makers of any number of terms."""
    if most <= 1 or rng.random() < 0.4:
        return rng.choice(NAMES)
    many = rng.choice([0, 1, 1, 2, 2, 3])
    return (rng.choice(NAMES), *[text_term(rng, (most - 1) // max(1, many)) for _ in range(many)])


def text_terms(rng, least=1):
    return tuple([text_term(rng) for _ in range(rng.randrange(least, 4))])


def text_atom(rng):
    return rng.choice(NAMES), text_terms(rng)


def text_atoms(rng, least):
    return tuple([text_atom(rng) for _ in range(rng.randrange(least, 3))])


def text_claim(rng):
    return text_atoms(rng, 0), text_atoms(rng, 1)


def text_numbers(rng, least=0):
    return tuple([rng.choice(NUMBERS) for _ in range(rng.randrange(least, 4))])


def text_rule(rng):
    return text_terms(rng), text_atoms(rng, 0)


def text_book(rng):
    makers = tuple([(rng.choice(NAMES), rng.choice(NUMBERS)) for _ in range(rng.randrange(4))])
    sayings = [(rng.choice(NAMES), rng.choice(NUMBERS), rng.choice(NUMBERS),
                tuple([text_rule(rng) for _ in range(rng.randrange(4))]))
               for _ in range(rng.randrange(4))]
    return makers, tuple(sayings)


def text_step(rng):
    word = rng.choice(["same", "cases", "use", "fill", "put"])
    one, other = rng.choice(NUMBERS), rng.choice(NUMBERS)
    if word == "same":
        return word, one, other
    if word == "cases":
        return word, one, tuple([rng.choice([None, rng.choice(NUMBERS)])
                                 for _ in range(rng.randrange(5))])
    if word == "use":
        return word, one, other, text_numbers(rng)
    if word == "fill":
        pairs = tuple([(rng.choice(NAMES), text_term(rng)) for _ in range(rng.randrange(4))])
        return word, one, pairs, text_numbers(rng), text_numbers(rng)
    return word, text_atom(rng), one, other


def text_paper(rng):
    return tuple([(text_claim(rng), text_step(rng)) for _ in range(rng.randrange(1, 5))])


def broken(rng, text):
    """The text with something in it put in, left out, put twice or exchanged."""
    many = rng.choice([1, 1, 1, 2, 3])
    for _ in range(many):
        words = text.split(" ")
        at = rng.randrange(len(words))
        way = rng.randrange(9)
        if way == 0:
            words.insert(at, rng.choice(["", "(", ")", ",", "=>", "if", "to", "lefts", "rights",
                                         "-", "x", "0", "with", "by", "\n"]))
        elif way == 1:
            del words[at]
        elif way == 2:
            words.insert(at, words[at])
        elif way == 3:
            other = rng.randrange(len(words))
            words[at], words[other] = words[other], words[at]
        elif way == 4:
            words[at] = rng.choice(["(", ")", ",", "=>", "if", "x", "7", "07", "-", "00", "12345",
                                    "X", "x1", "+1", "abcdefghi", "", "lefts", "rights", "to"])
        text = " ".join(words)
        if way in (5, 6, 7) and text:
            signs = list(text)
            at = rng.randrange(len(signs))
            if way == 5:
                signs.insert(at, rng.choice(" \n(),=>-xX0;~!"))
            elif way == 6:
                del signs[at]
            else:
                signs[at] = rng.choice(" \n(),=>-xX0;~!")
            text = "".join(signs)
        if way == 8:
            rows = text.split("\n")
            at = rng.randrange(len(rows))
            other = rng.randrange(len(rows))
            change = rng.randrange(4)
            if change == 0:
                rows.insert(at, rng.choice(["", "x", "maker x 0", "saying x 1 by 0", "rule x",
                                            "=> a x", "by same 0 0"]))
            elif change == 1:
                rows.insert(at, rows[other])
            elif change == 2 and len(rows) > 1:
                del rows[at]
            else:
                rows[at], rows[other] = rows[other], rows[at]
            text = "\n".join(rows)
    return text
