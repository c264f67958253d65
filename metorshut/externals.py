"""What externals are asked and may answer (points 8, 10 and 14)."""

from metorshut.evaluation import Words
from metorshut.words import all_words


def unmet(external):
    """The least words with which it can be asked and has no answer, None if there are none."""
    for words in all_words([kind for _, kind in external[2]]):
        if needs_hold(external, words) and not _given(external, words):
            return words
    return None


def let_answers(external, args, asked):
    """The answers that are let, ascending, behind what was asked of it so far."""
    answers = _given(external, args)
    if external[4] == 1:
        for words, answer in asked:
            if words == args:
                answers = [one for one in answers if one == answer]
    return tuple(answers)


def needs_hold(external, args):
    """Whether its needs are 1 for these words."""
    return Words().worth(external[5], outer_cells(external, args), ())[1] == 1


def _given(external, args):
    cells = outer_cells(external, args)
    words = Words()
    width = external[3]
    answers = []
    for answer in range(1 << width):
        cells["result"] = (width, answer)
        if words.worth(external[6], cells, ())[1] == 1:
            answers.append(answer)
    return answers


def outer_cells(external, args):
    """The cells of the needs of an external that is asked with these words, or with what stands for them."""
    return {name: (kind, word) for (name, kind), word in zip(external[2], args)}
