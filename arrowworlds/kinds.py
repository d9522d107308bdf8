"""What kinds of values there are: the checks for arguments that may be any value."""


def is_number(value, low, high):
    """Whether the value is an integer from low to high; True and False are none [1]."""
    return type(value) is int and low <= value <= high


def is_row(value, many):
    """Whether the value is a tuple of so many entries."""
    return type(value) is tuple and len(value) == many


def is_number_row(value, many, low, high):
    """Whether the value is a tuple of so many integers from low to high."""
    return is_row(value, many) and all([is_number(entry, low, high) for entry in value])


def is_ascending(row):
    """Whether each entry of the row is less than the next one."""
    return all([row[k] < row[k + 1] for k in range(len(row) - 1)])
