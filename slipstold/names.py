"""Names, the strings that tokens and states are."""

LONGEST_NAME = 8


def is_name(value):
    """Whether the value is a string of 1 to 8 letters from a to z."""
    if not isinstance(value, str) or not 1 <= len(value) <= LONGEST_NAME:
        return False
    return all(["a" <= letter <= "z" for letter in value])


def are_names(value, most):
    """Whether the value is a list or tuple of at least one and at most so many names, all different."""
    if not isinstance(value, (list, tuple)) or not 1 <= len(value) <= most:
        return False
    if not all([is_name(item) for item in value]):
        return False
    return len(set(value)) == len(value)


def is_string_pair(value):
    """Whether the value is a tuple of two strings."""
    return isinstance(value, tuple) and len(value) == 2 and all([isinstance(item, str) for item in value])
