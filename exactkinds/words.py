"""Words (point 200)."""

from exactkinds.limits import MOST_NAME


def is_word(value):
    """Return whether any value is a word."""
    if not isinstance(value, str) or not 1 <= len(value) <= MOST_NAME:
        return False
    # Without isascii, letters and digits of all alphabets would pass.
    return value.isascii() and value.isalnum() and value[0].isalpha()
