"""What any value may be asked: whether it is an integer, a sign, the same as another one."""

MAXINT = 2147483647


def is_integer(value):
    """Whether this is an int that is not a bool."""
    return isinstance(value, int) and not isinstance(value, bool)


def is_sign(value):
    """Whether this is a string of one printable sign."""
    return isinstance(value, str) and len(value) == 1 and " " <= value <= "~"


def is_signs(value):
    """Whether this is a string of printable signs, perhaps of none."""
    return isinstance(value, str) and all([" " <= sign <= "~" for sign in value])


def is_place(value):
    """Whether this is a tuple of two integers."""
    return isinstance(value, tuple) and len(value) == 2 and all([is_integer(part) for part in value])


def same_values(one, other):
    """Whether two values are the same, where a list is no tuple and True is not 1."""
    work = [(one, other)]
    while work:
        left, right = work.pop()
        of_one_class = type(left) is type(right)
        if not of_one_class:
            return False
        if isinstance(left, (tuple, list, dict)):
            if len(left) != len(right):
                return False
            pairs = dict_pairs(left, right) if isinstance(left, dict) else list(zip(left, right))
            if len(pairs) < len(left):
                return False
            for pair in pairs:
                work.append(pair)
        elif left != right:
            return False
    return True


def dict_pairs(left, right):
    """The pairs of keys and of values that must be the same; none if a key has no like."""
    pairs = []
    for key in left:
        twins = [twin for twin in right if twin == key]
        if not twins:
            return []
        pairs.append((key, twins[0]))
        pairs.append((left[key], right[key]))
    return pairs
