"""The tokens of a text, taken one by one."""

from metorshut.errors import BadText
from metorshut.tokens import is_name, is_number


class TokenRow:
    """A row of tokens and the number of the one that is taken next."""

    def __init__(self, tokens):
        self.tokens = tokens
        self.at = 0

    def is_done(self):
        """Whether all tokens are taken."""
        return self.at == len(self.tokens)

    def seen(self):
        """The token that is taken next; the empty string behind the last one."""
        return "" if self.is_done() else self.tokens[self.at]

    def take_any(self):
        """Take the token, whatever it is."""
        token = self.tokens[self.at]
        self.at += 1
        return token

    def skip(self, token):
        """Take the token if it is this one, and tell whether it was."""
        if self.seen() != token:
            return False
        self.at += 1
        return True

    def take(self, token):
        """Take the token, which must be this one."""
        if not self.skip(token):
            raise BadText(self.at)

    def take_name(self):
        """Take a NAME."""
        if not is_name(self.seen()):
            raise BadText(self.at)
        return self.take_any()

    def take_number(self):
        """Take a NUMBER, and tell the integer."""
        if not is_number(self.seen()):
            raise BadText(self.at)
        return int(self.take_any())
