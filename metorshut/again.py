"""Which tests must be run again when a program is edited (points 17 and 48)."""

from metorshut.bounds import BOUNDS, check_bounds
from metorshut.edits import texts_in
from metorshut.frames import check_width
from metorshut.programs import declared
from metorshut.suites import full_reports


def again(program, other, entry, inputs, bounds=BOUNDS):
    """Those of the full inputs, in their order, whose runs meet what the other program has with another text."""
    check_bounds(bounds)
    check_width(declared(program, entry), bounds)
    texts, other_texts = texts_in(program), texts_in(other)
    found = []
    for tried, report in zip(inputs, full_reports(program, entry, inputs, bounds)):
        if any([texts[name] != other_texts.get(name) for name in report[4]]):
            found.append(tried)
    return tuple(found)


def lots_of(tests, others):
    """Three tuples: the tests in both, those only in the first tuple, and those only in the second one."""
    first, second = {one: True for one in tests}, {one: True for one in others}
    both = tuple([one for one in tests if one in second])
    return both, tuple([one for one in tests if one not in second]), tuple([one for one in others if one not in first])
