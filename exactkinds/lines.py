"""The lines of a text and their tokens (points 201 and 202)."""

from exactkinds.errors import BadText
from exactkinds.limits import MOST_OPEN, MOST_TEXT
from exactkinds.words import is_word

MOST_DIGITS = 2
PERCENT_CODE = 37


def rows_of(text):
    """Return the list of the rows that a newline ends; raise BadText with 0 for what is no text at all."""
    if not isinstance(text, str) or len(text) > MOST_TEXT:
        raise BadText(0)
    for sign in text:
        if not _is_allowed(sign):
            raise BadText(0)
    return text.split("\n")[:-1]


def _is_allowed(sign):
    return sign == "\n" or (" " <= sign <= "~" and ord(sign) != PERCENT_CODE)


class Line:
    """The tokens of a row, taken one by one; at is the place of the next one.

    What is no token is kept like one: nothing takes it, so it makes the line a bad one.
    """

    def __init__(self, row, number):
        self.number = number
        self.at = 0
        self.tokens = _tokens_of(row.partition("#")[0])
        # Here and not while trees are taken, so that no text makes the taking of trees go deep.
        if _most_open(self.tokens) > MOST_OPEN:
            self.refuse()

    def refuse(self):
        """Raise BadText for this line."""
        raise BadText(self.number)

    def comes(self, token):
        """Return whether this token is the next one."""
        return self.tokens[self.at:self.at + 1] == [token]

    def take(self):
        """Return the next token and go on behind it."""
        if self.at == len(self.tokens):
            self.refuse()
        self.at += 1
        return self.tokens[self.at - 1]

    def skip(self, token):
        """Go on behind this token, which must be the next one."""
        if self.take() != token:
            self.refuse()

    def finish(self):
        """Make sure that no token is left."""
        if self.at != len(self.tokens):
            self.refuse()

    def take_word(self):
        """Return the next token, which must be a word."""
        token = self.take()
        if not is_word(token):
            self.refuse()
        return token

    def take_number(self):
        """Return the integer of the next token, which must be a number."""
        token = self.take()
        if not _is_number(token):
            self.refuse()
        return int(token)

    def take_tree(self):
        """Return a word as a string, or a word with trees in parentheses as a tuple."""
        word = self.take_word()
        if self.comes("("):
            return (word,) + self.take_trees()
        return word

    def take_trees(self):
        """Return the tuple of the trees that stand in parentheses, at least one."""
        self.skip("(")
        found = [self.take_tree()]
        while self.comes(","):
            self.skip(",")
            found.append(self.take_tree())
        self.skip(")")
        return tuple(found)


def _tokens_of(row):
    found = []
    start = 0
    while start < len(row):
        end = _token_end(row, start)
        if row[start] != " ":
            found.append(row[start:end])
        start = end
    return found


def _token_end(row, start):
    end = start
    while end < len(row) and row[end].isalnum():
        end += 1
    if end > start:
        return end
    return start + 2 if row.startswith("->", start) else start + 1


def _is_number(token):
    if not token.isdigit() or len(token) > MOST_DIGITS:
        return False
    return token == "0" or token[0] != "0"


def _most_open(tokens):
    count = 0
    most = 0
    for token in tokens:
        if token == "(":
            count += 1
        elif token == ")":
            count -= 1
        most = max(most, count)
    return most
