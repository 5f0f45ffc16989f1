"""The words of texts: names, signs, calls, numbers."""

MARKS = ("+", "-", "*", "/", "=", "<", ">", "(", ")", "[", "]", ",", ";", "?")


def is_short(text):
    """Whether a text is one to six letters, of A to Z and a to z alone."""
    return len(text) <= 6 and text.isascii() and text.isalpha()


def is_name(text):
    """Whether a text is a name."""
    return is_short(text) and text.islower()


def is_sign(text):
    """Whether a text is a sign."""
    return text in MARKS or is_short(text) and text.isupper()


def is_call(text):
    """Whether a text is a function's name, P.F."""
    part, _, function = text.partition(".")
    return is_name(part) and is_name(function)


def number_of(text):
    """The number that a text's figures are, or None."""
    # Only short ASCII figures are read: other scripts have figures, too, and int would take them.
    if len(text) > 3 or not text.isascii() or not text.isdigit():
        return None
    if len(text) > 1 and text.startswith("0"):
        return None
    return int(text)
