"""What is asked of any values, and whole products: for all modules."""


def is_integer(value):
    """Whether any value is an integer."""
    return isinstance(value, int) and not isinstance(value, bool)


def is_between(value, least, most):
    """Whether any value is an integer from least to most."""
    return is_integer(value) and least <= value <= most


def is_below(value, many):
    """Whether any value is a number below many."""
    return is_integer(value) and 0 <= value < many


def is_sequence(value):
    """Whether any value is a sequence."""
    return isinstance(value, (list, tuple))


def wrong_place(sizes, value):
    """The first place where any value has no number below the size, -1 for no sequence of this length, or None."""
    if not is_sequence(value) or len(value) != len(sizes):
        return -1
    for at, size in enumerate(sizes):
        if not is_below(value[at], size):
            return at
    return None


def is_permutation(value, many):
    """Whether any value is a sequence of all numbers below many, each once."""
    if wrong_place([many] * many, value) is not None:
        return False
    return len(set(value)) == many


def same_value(value, known):
    """Whether any value is a known one, made of tuples, integers, strings and None."""
    if isinstance(known, tuple):
        if not isinstance(value, tuple) or len(value) != len(known):
            return False
        return all([same_value(part, known[at]) for at, part in enumerate(value)])
    # True is equal to 1 for Python, but is no integer here.
    if isinstance(value, bool):
        return False
    return value == known


def is_figures(word):
    """Whether a string has figures alone, and some."""
    return word != "" and all([sign in "0123456789" for sign in word])


def read_number(word, most):
    """The number of a word as Python writes it, of so many figures at most, or None."""
    if not is_figures(word) or len(word) > most:
        return None
    if len(word) > 1 and word[0] == "0":
        return None
    return int(word)


def product_of(numbers):
    """The product of some integers."""
    whole = 1
    for number in numbers:
        whole = whole * number
    return whole


def power_of(number, many):
    """The product of so many times a number."""
    return product_of([number] * many)


def union_of(lots):
    """The lot of all parts of lots that have none in common."""
    return tuple(sorted([part for lot in lots for part in lot]))


def lot_bits(lot):
    """A lot as a number: the bit of each of its parts is 1."""
    return sum([1 << part for part in lot])


def bits_lot(bits):
    """The lot of a number."""
    return tuple([part for part in range(bits.bit_length()) if bits >> part & 1])


def count_bits(bits):
    """How many bits of a number are 1."""
    return f"{bits:b}".count("1")
