"""The characters that texts are made of, and the words that they form."""

LETTERS = "abcdefghijklmnopqrstuvwxyz"
DIGITS = "0123456789"


def is_digits(text):
    """Tell whether a text consists of digits, at least one."""
    return text != "" and all([char in DIGITS for char in text])


def is_number(word, most):
    """Tell whether a word is an integer of at most so many digits without leading zeros."""
    return is_digits(word) and len(word) <= most and (word == "0" or word[0] != "0")


def is_name(text):
    """Tell whether a text is a name: 1 to 8 small letters and digits, the first one a letter."""
    if not 1 <= len(text) <= 8 or text[0] not in LETTERS:
        return False
    return all([char in LETTERS or char in DIGITS for char in text])
