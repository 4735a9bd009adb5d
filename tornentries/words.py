"""Numbers and paths as words, and lines of words."""

FIGURES = "0123456789"
MOST_FIGURES = 10


def number_of(word):
    """The number that these figures write, or None."""
    if len(word) == 0 or len(word) > MOST_FIGURES or not all([sign in FIGURES for sign in word]):
        return None
    if word[0] == "0" and len(word) > 1:
        return None
    return int(word)


def numbers_of(words):
    """The numbers that these words write, as a tuple, or None."""
    numbers = tuple([number_of(word) for word in words])
    return None if None in numbers else numbers


def path_of(word):
    """The numbers with points between them that the word writes, whether they are a path or not; or None."""
    return numbers_of(word.split("."))


def path_word(path):
    """The path as a word."""
    return ".".join([str(number) for number in path])


def words_of(parts):
    """These parts as words with blanks between them."""
    return " ".join([str(part) for part in parts])


def lines_of(lines):
    """The text of these lines."""
    return "".join([line + "\n" for line in lines])
