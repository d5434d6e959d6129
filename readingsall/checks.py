"""What the strings and numbers of a grammar are checked for (points 3 to 11 of the document)."""

from readingsall.errors import BadGrammar, BadName, Duplicate
from readingsall.features import VARIABLE_SIGN
from readingsall.names import is_gloss, is_letters, is_name

HIGHEST_COST = 1000


def check_name(text):
    if not is_name(text):
        raise BadName(f"{text!r} is not a name")


def check_letters(text, least, most):
    if not is_letters(text, least, most):
        raise BadName(f"{text!r} does not consist of {least} to {most} letters")


def check_all_different(texts):
    if len(set(texts)) != len(texts):
        raise Duplicate(f"a string stands twice in {texts!r}")


def check_cost(cost):
    if not 0 <= cost <= HIGHEST_COST:
        raise BadGrammar(f"the cost {cost} is not from 0 to {HIGHEST_COST}")


def check_gloss_row(gloss_row, parts):
    """Check that each item is a gloss or an integer from 1 to the number of parts."""
    for item in gloss_row:
        if not (1 <= item <= parts if isinstance(item, int) else is_gloss(item)):
            raise BadGrammar(f"{item!r} is neither a gloss nor an integer from 1 to {parts}")


def is_variable(term):
    return term.startswith(VARIABLE_SIGN) and is_name(term[1:])


def grows(seam, text):
    """Return False if a morph with this text keeps a grammar with this seam from growing, otherwise True."""
    left, right, joined = seam
    return not text.startswith(right) or len(text) + len(joined) > len(left) + len(right)
