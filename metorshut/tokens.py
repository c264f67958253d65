"""The tokens of texts (points 4 and 5)."""

RESERVED = (
    "record", "external", "steady", "needs", "gives", "entry", "function", "var", "let", "make", "call", "if",
    "else", "while", "return", "raise", "try", "catch", "assert", "null", "pick", "wide", "div", "rem",
)
LONG_SIGNS = ("==", "!=", "<=", "<<", ">>")
SPACES = (" ", "\n")


def tokens_of(text):
    """The tuple of the tokens."""
    tokens = []
    at = 0
    while at < len(text):
        end = _end_of(text, at)
        token = text[at:end]
        if token not in SPACES:
            tokens.append(token)
        at = end
    return tuple(tokens)


def _end_of(text, at):
    if not _runs_on(text[at]):
        return at + 2 if text[at:at + 2] in LONG_SIGNS else at + 1
    end = at
    while end < len(text) and _runs_on(text[end]):
        end += 1
    return end


def _runs_on(character):
    return _is_small(character) or _is_digit(character) or "A" <= character <= "Z"


def _is_small(character):
    return "a" <= character <= "z"


def _is_digit(character):
    return "0" <= character <= "9"


def is_name(token):
    """Whether a token is a NAME."""
    if token in RESERVED or not 1 <= len(token) <= 8 or not _is_small(token[0]):
        return False
    return all([_is_small(one) or _is_digit(one) for one in token])


def is_number(token):
    """Whether a token is a NUMBER."""
    if not 1 <= len(token) <= 3 or not all([_is_digit(one) for one in token]):
        return False
    return token == "0" or token[0] != "0" and int(token) <= 255
