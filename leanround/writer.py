"""The texts of terms, claims, books and papers."""


def term_words(term):
    """The words of a term's text."""
    words = []
    waiting = [term]
    while waiting:
        part = waiting.pop()
        if isinstance(part, str):
            words.append(part)
        else:
            words.extend(["(", part[0]])
            waiting.append(")")
            waiting.extend(part[:0:-1])
    return words


def terms_words(terms):
    """The words of a row of terms."""
    return [word for term in terms for word in term_words(term)]


def term_text(term):
    """A term's text."""
    return " ".join(term_words(term))


def atom_words(atom):
    """The words of an atom's text."""
    saying, terms = atom
    return [saying, *terms_words(terms)]


def atoms_words(atoms):
    """The words of a row of atoms, parted by commas."""
    words = []
    for atom in atoms:
        if len(words) > 0:
            words.append(",")
        words.extend(atom_words(atom))
    return words


def claim_text(claim):
    """A claim's text."""
    left, right = claim
    return " ".join([*atoms_words(left), "=>", *atoms_words(right)])


def rule_text(rule):
    """The row of a rule."""
    heads, needs = rule
    words = ["rule", *terms_words(heads)]
    for need in needs:
        words.extend(["if", *atom_words(need)])
    return " ".join(words)


def book_text(book):
    """A book's text: a row for each maker, saying and rule."""
    makers, sayings = book
    rows = [f"maker {name} {takes}" for name, takes in makers]
    for name, many, by, rules in sayings:
        rows.append(f"saying {name} {many} by {by}")
        rows.extend([rule_text(rule) for rule in rules])
    return "\n".join(rows)


def goal_word(goal):
    """The word of a goal, or of any number."""
    return "-" if goal is None else str(goal)


def number_words(numbers):
    """The words of a row of numbers, or of goals."""
    return [goal_word(number) for number in numbers]


def fill_words(step):
    """The words of a fill behind its own word."""
    _, goal, pairs, lefts, rights = step
    row = [part for pair in pairs for part in pair]
    return [*number_words((goal,)), "with", *terms_words(row),
            "lefts", *number_words(lefts), "rights", *number_words(rights)]


def put_words(step):
    """The words of a put behind its own word."""
    _, atom, one, other = step
    return [*atom_words(atom), "to", *number_words((one, other))]


def step_text(step):
    """The row of a step."""
    word = step[0]
    if word == "fill":
        words = fill_words(step)
    elif word == "put":
        words = put_words(step)
    elif word == "same":
        words = number_words(step[1:])
    else:
        words = number_words((*step[1:-1], *step[-1]))
    return " ".join(["by", word, *words])


def paper_text(paper):
    """A paper's text: two rows for each node, its claim and its step."""
    return "\n".join([text for claim, step in paper
                      for text in (claim_text(claim), step_text(step))])
