"""The values of terms (points 3 and 23)."""

from metorshut.nodeparts import cone_of, operands_of, reckoning_width
from metorshut.words import result


def value_of(nodes, words, term):
    """The value of a term, for words for the inputs."""
    values = {}
    for at in cone_of(nodes, (term,)):
        values[at] = _value(nodes, words, values, nodes[at])
    return values[term]


def values_of(nodes, words):
    """The values of all terms."""
    values = []
    for node in nodes:
        values.append(_value(nodes, words, values, node))
    return tuple(values)


def _value(nodes, words, values, node):
    op, width = node[0], node[1]
    if op == "word":
        return node[2]
    if op == "input":
        number = node[2]
        return words[number] & ((1 << width) - 1) if number < len(words) else 0
    terms = operands_of(node)
    operands = [values[term] for term in terms]
    return result(op, reckoning_width(nodes, op, width, terms), *operands)
