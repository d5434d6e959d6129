"""Rows, stages and fitting word by word as the document defines them, slowly, and grammars to compare with."""

from itertools import product

from helpers import make


def plain_join(seams, text, more):
    fitting = [seam for seam in seams if text[-len(seam[0]):] == seam[0] and more[:len(seam[1])] == seam[1]]
    if not fitting:
        return text + more
    left, right, joined = fitting[0]
    return text[:-len(left)] + joined + more[len(right):]


def plain_text(grammar, row):
    text = ""
    for place, number in enumerate(row):
        more = grammar.morphs()[number][0]
        text = more if place == 0 else plain_join(grammar.seams(), text, more)
    return text


def plain_state(grammar, row):
    state = grammar.first
    for number in row:
        found = [target for one, kind, target in grammar.arcs()
                 if one == state and kind == grammar.morphs()[number][1]]
        if not found:
            return None
        state = found[0]
    return state


def plain_marks(grammar, row):
    marked = {pair for number in row for pair in grammar.morphs()[number][2]}
    found = []
    for name, _ in grammar.attributes():
        values = [value for attribute, value in marked if attribute == name]
        if len(values) > 1:
            return None
        found.append(values[0] if values else "")
    return tuple(found)


def plain_agrees(grammar, label, marks):
    names = [name for name, _ in grammar.attributes()]
    wanted = dict(zip(names, marks))
    attributes = dict(grammar.categories())[label[0]]
    return all(wanted[name] in ("", value) for name, value in zip(attributes, label[1]))


def every_label(grammar):
    return [label for name, _ in grammar.categories() for label in grammar.labels(name)]


def plain_labels(grammar, row):
    state, marks = plain_state(grammar, row), plain_marks(grammar, row)
    if len(row) == 0 or state is None or marks is None:
        return []
    return sorted(label for label in every_label(grammar)
                  if (state, label[0]) in grammar.ends() and plain_agrees(grammar, label, marks))


def plain_rows(grammar, most):
    """All rows with at most so many morphs, shorter ones first."""
    numbers = range(len(grammar.morphs()))
    return [row for many in range(most + 1) for row in product(numbers, repeat=many)]


def plain_possible(grammar, text, form):
    lefts = [len(left) for left, _, _ in grammar.seams()]
    kept = max(len(text) - max(lefts + [0]), 0)
    return text == form or (len(text) < len(form) and form[:kept] == text[:kept])


def plain_stages(grammar, form):
    """Point 18: take both rules again and again until no new stage or way is found."""
    names = [name for name, _ in grammar.attributes()]
    found = {}
    if grammar.first is not None:
        found[(grammar.first, "", ("",) * len(names))] = set()
    while True:
        new = [(later, way) for stage in found for later, way in plain_steps(grammar, form, names, stage)
               if later not in found or way not in found[later]]
        if not new:
            break
        for later, way in new:
            found.setdefault(later, set()).add(way)
    return [(stage, sorted(found[stage], key=lambda way: (way[1], way[0]))) for stage in sorted(found)]


def plain_steps(grammar, form, names, stage):
    state, text, marks = stage
    for number, (more, kind, marked, _, _) in enumerate(grammar.morphs()):
        for one, by, target in grammar.arcs():
            joined = plain_join(grammar.seams(), text, more)
            own = dict(marked)
            if (one, by) == (state, kind) and plain_possible(grammar, joined, form):
                if all(marks[names.index(name)] in ("", own[name]) for name in own):
                    together = tuple(own.get(name, mark) for name, mark in zip(names, marks))
                    yield (target, joined, together), (stage, number)


def variables_of(patterns):
    return sorted({term for _, terms in patterns for term in terms if term.startswith("?")})


def plainly_fits(one, label, labels):
    """Point 6 word by word: try every choice of a value for each variable."""
    patterns, tried = [one[0], *one[1]], [label, *labels]
    if len(labels) != len(one[1]):
        return False
    if [name for name, _ in patterns] != [name for name, _ in tried]:
        return False
    places = [place for pattern, (_, values) in zip(patterns, tried) for place in zip(pattern[1], values)]
    names = variables_of(patterns)
    every = sorted({value for _, value in places})
    for values in product(every, repeat=len(names)):
        chosen = dict(zip(names, values))
        if all(term == "*" or term == value or chosen.get(term) == value for term, value in places):
            return True
    return False


def some_grammar(chance):
    """A grammar by chance: few letters, so that seams meet often and many rows have one text."""
    values = {"num": ("sg", "pl"), "case": ("nom", "acc", "sg"), "odd": ("u",)}
    attributes = [(name, values[name]) for name in chance.sample(sorted(values), chance.randrange(4))]
    names = [name for name, _ in attributes]
    categories = [("s", ()), ("x", chance.sample(names, len(names)))]
    categories += [("n", names[:1])] if chance.randrange(2) else []
    states = ["q", "r", "p"][:chance.randrange(1, 4)]
    kinds = ["k", "m", "h"][:chance.randrange(1, 4)]
    arcs = [(state, kind, chance.choice(states)) for state in states for kind in kinds if chance.randrange(4)]
    ends = [(state, name) for state in states for name, _ in categories if chance.randrange(2)]
    morphs = []
    for _ in range(chance.randrange(1, 6)):
        text = "".join(chance.choice("aab") for _ in range(chance.randrange(1, 4)))
        marks = [(name, chance.choice(values[name])) for name in names if not chance.randrange(3)]
        chance.shuffle(marks)
        morphs.append((text, chance.choice(kinds), tuple(marks), 0, ""))
    grammar = make(attributes, categories, [], morphs, arcs, ends, [], None, chance.choice(states))
    add_seams(grammar, chance)
    return grammar


def add_seams(grammar, chance):
    for _ in range(chance.randrange(6)):
        seam = ["".join(chance.choice("aab") for _ in range(chance.randrange(low, high)))
                for low, high in ((1, 4), (1, 3), (0, 4))]
        if seam[:2] not in [list(one[:2]) for one in grammar.seams()] and grows(grammar, *seam):
            grammar.add_seam(*seam)


def grows(grammar, left, right, joined):
    return all(len(text) + len(joined) > len(left) + len(right)
               for text, _, _, _, _ in grammar.morphs() if text.startswith(right))
