"""Lines that stand for calls of methods of a grammar (points 26 and 27 of the document)."""

from readingsall.tokens import NoForm, read_number, split_once

NOTHING = "="
MARK_SIGN = "="
LEFT_END = "->"
PART_END = "+"
RIGHT_END = ":"
CHILDREN = ("$1", "$2", "$3", "$4")
COST_DIGITS = 4


def or_nothing(text):
    return NOTHING if text == "" else text


def from_token(token):
    return "" if token == NOTHING else token


def morph_tokens(morph):
    text, kind, marks, cost, gloss = morph
    return ["morph", text, kind, str(cost), or_nothing(gloss),
            *[f"{attribute}{MARK_SIGN}{value}" for attribute, value in marks]]


def rule_tokens(rule):
    (category, terms), parts, cost, gloss_row = rule
    tokens = ["rule", str(cost), category, *terms]
    sign = LEFT_END
    for part_category, part_terms in parts:
        tokens.extend([sign, part_category, *part_terms])
        sign = PART_END
    items = [CHILDREN[item - 1] if isinstance(item, int) else item for item in gloss_row]
    return [*tokens, RIGHT_END, *items]


def call(grammar, tokens):
    """Call the method for which the tokens stand. Raises NoForm, or what the call raises."""
    match tokens:
        case ["attribute", name, *values]:
            grammar.add_attribute(name, values)
        case ["category", name, *attributes]:
            grammar.add_category(name, attributes)
        case ["start", category]:
            grammar.set_start(category)
        case ["first", state]:
            grammar.set_first(state)
        case ["arc", state, kind, target]:
            grammar.add_arc(state, kind, target)
        case ["end", state, category]:
            grammar.add_end(state, category)
        case ["seam", left, right, joined]:
            grammar.add_seam(left, right, from_token(joined))
        case ["morph", text, kind, cost, gloss, *marks]:
            grammar.add_morph(text, kind, marks=tuple([read_mark(mark) for mark in marks]),
                              cost=read_number(cost, COST_DIGITS), gloss=from_token(gloss))
        case ["rule", cost, *rest]:
            call_rule(grammar, read_number(cost, COST_DIGITS), rest)
        case _:
            raise NoForm("the line stands for no call")


def call_rule(grammar, cost, tokens):
    left, rest = split_once(tokens, LEFT_END)
    right, items = split_once(rest, RIGHT_END)
    parts = []
    while PART_END in right:
        part, right = split_once(right, PART_END)
        parts.append(read_pattern(part))
    parts.append(read_pattern(right))
    gloss_row = tuple([read_item(item) for item in items])
    grammar.add_rule(read_pattern(left), tuple(parts), cost=cost, gloss_row=gloss_row)


def read_mark(token):
    if token.count(MARK_SIGN) != 1:
        raise NoForm(f"{token!r} is not a mark")
    attribute, _, value = token.partition(MARK_SIGN)
    return (attribute, value)


def read_pattern(tokens):
    if not tokens:
        raise NoForm("a pattern has no category")
    return (tokens[0], tuple(tokens[1:]))


def read_item(token):
    return CHILDREN.index(token) + 1 if token in CHILDREN else token
