"""Integers, words and rows, as the whole package understands them."""

LONGEST_WORD = 8


def is_integer(value):
    """Whether value is an integer; True and False are none."""
    return isinstance(value, int) and not isinstance(value, bool)


def is_integer_within(value, low, high):
    """Whether value is an integer from low to high."""
    return is_integer(value) and low <= value <= high


def is_row(value):
    """Whether value is a sequence; a string is none."""
    return isinstance(value, (list, tuple))


def is_word(value):
    """Whether value is a word: 1 to 8 small letters and digits, a letter first."""
    if not isinstance(value, str) or not 1 <= len(value) <= LONGEST_WORD:
        return False
    # Methods such as islower would let in letters and digits beyond ASCII.
    if not "a" <= value[0] <= "z":
        return False
    return all(["a" <= sign <= "z" or "0" <= sign <= "9" for sign in value])


def are_ascending(words):
    """Whether the words of a row are ascending and distinct."""
    return all([low < high for low, high in zip(words, words[1:])])


def is_row_of_words(value):
    """Whether value is a sequence of ascending, distinct words; it may be empty."""
    return is_row(value) and all([is_word(word) for word in value]) and are_ascending(value)


def are_sizes(value, most, largest, many):
    """Whether value is a row of at most so many pairs of an ascending, distinct word and a size from 1 to largest.

    The product of the sizes is at most many.
    """
    if not is_row(value) or len(value) > most:
        return False
    if not all([_is_sized_word(pair, largest) for pair in value]):
        return False
    return are_ascending([pair[0] for pair in value]) and product_of([pair[1] for pair in value]) <= many


def product_of(numbers):
    """The product of the numbers in a row; 1 if there are none."""
    found = 1
    for number in numbers:
        found = found * number
    return found


def combined(rows):
    """All rows with one member of each of the rows, in the order in which the members stand there, the last fastest."""
    found = [()]
    for row in rows:
        found = [members + (member,) for members in found for member in row]
    return found


def place_number(pairs, place):
    """The number of a place among all places along words with sizes, in ascending order."""
    number = 0
    for (_, size), at in zip(pairs, place):
        number = number * size + at
    return number


def as_tuples(row):
    """The row as a tuple, and the rows in it as tuples, so that nobody can change them."""
    return tuple([tuple(part) if is_row(part) else part for part in row])


def _is_sized_word(value, largest):
    if not is_row(value) or len(value) != 2:
        return False
    return is_word(value[0]) and is_integer_within(value[1], 1, largest)
