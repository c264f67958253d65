"""Finding models of questions, or papers (points 23, 26 and 27)."""

from metorshut.errors import TooMany
from metorshut.refuting import paper_against
from metorshut.tables import Tables, both, is_empty, least_in

MOST_BITS = 12


def solve(question):
    """The least model, or a paper that shows that there is none."""
    widths, rows, conditions = question
    if sum(widths) > MOST_BITS:
        raise TooMany("bits")
    tables = Tables(rows, sum(widths))
    masks = [tables.holding(widths, term) for term in conditions]
    found = tables.all_inputs()
    for mask in masks:
        found = both(found, mask)
    if is_empty(found):
        return "paper", paper_against(rows, conditions, masks)
    return "model", tables.words_at(widths, least_in(found))
