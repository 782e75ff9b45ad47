"""What is a number, a text of signs and a galley."""

from galleymarks.errors import BadGalley

SIGNS = "abcdefghijklmnopqrstuvwxyz .,\n"
MOST_IN_GALLEY = 80


def is_number(value):
    """Whether it is a whole number; True and False are none."""
    return isinstance(value, int) and not isinstance(value, bool)


def is_text(value, least, most):
    """Whether it is a text of at least and at most so many signs."""
    if not isinstance(value, str) or len(value) < least or len(value) > most:
        return False
    return all([sign in SIGNS for sign in value])


def check_galley(value):
    """Refuse what is no galley."""
    if not is_text(value, 0, MOST_IN_GALLEY):
        raise BadGalley("a galley is a text of at most 80 signs")
