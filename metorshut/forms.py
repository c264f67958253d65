"""Linear terms (point 27)."""

from metorshut.nodeparts import cone_of


def form_of(nodes, term):
    """The factors and the constant of a linear term; None if it is not linear.

    Factors are pairs (input, factor), ascending, without factors 0.
    """
    forms = {}
    for at in cone_of(nodes, (term,)):
        forms[at] = _form(nodes, forms, nodes[at])
    found = forms[term]
    if found is None:
        return None
    factors, constant = found
    return tuple(sorted([(number, factor) for number, factor in factors.items() if factor != 0])), constant


def _form(nodes, forms, node):
    """A pair of the dict of the factors and the constant; None if it is not linear."""
    op, width = node[0], node[1]
    if op == "word":
        return {}, node[2]
    if op == "input":
        return {node[2]: 1}, 0
    if op == "neg":
        return _added(width, ({}, 0), forms[node[2]], -1)
    if op == "not":
        return _added(width, ({}, -1), forms[node[2]], -1)
    if op in ("+", "-"):
        return _added(width, forms[node[2]], forms[node[3]], 1 if op == "+" else -1)
    if op in ("*", "<<"):
        return _many_times(nodes, forms, node)
    return None


def _many_times(nodes, forms, node):
    op, width, left, right = node
    if nodes[right][0] == "word":
        value = nodes[right][2]
        return _added(width, ({}, 0), forms[left], value if op == "*" else 1 << value)
    if op == "*" and nodes[left][0] == "word":
        return _added(width, ({}, 0), forms[right], nodes[left][2])
    return None


def _added(width, form, other, times):
    """A form and so many times another one, modulo 2 ^ width; None if one of both is none."""
    if form is None or other is None:
        return None
    top = (1 << width) - 1
    factors, constant = form
    other_factors, other_constant = other
    found = dict(factors)
    for number, factor in other_factors.items():
        found[number] = found.get(number, 0) + times * factor & top
    return found, constant + times * other_constant & top
