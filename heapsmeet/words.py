"""The words of a desk's lines: numbers, places, shares and rows."""

from heapsmeet.texts import number_read, spot_read

MOST_FIGURES = 6


class NoWord(ValueError):
    """What was said is no line of a desk."""


def words_of(thing):
    """The words of a line, the first of which says what to do."""
    if not isinstance(thing, str):
        raise NoWord()
    return thing.split(" ")


def no_words(words):
    """Refuses words where none may stand."""
    if words:
        raise NoWord()


def number_of(word):
    """The number, from 0 on, that a word tells."""
    number = number_read(word, MOST_FIGURES)
    if number is None or number < 0:
        raise NoWord()
    return number


def number_alone(words):
    """The number that one word alone tells."""
    if len(words) != 1:
        raise NoWord()
    return number_of(words[0])


def spot_of(words, directions):
    """The spot that so many words tell by its places."""
    spot = spot_read(words, MOST_FIGURES) if len(words) == directions else None
    if spot is None:
        raise NoWord()
    return spot


def number_and_spot(words, directions):
    """The number and the spot that the words tell, in this order."""
    return number_alone(words[:1]), spot_of(words[1:], directions)


def share_of(word):
    """The row (k, s) that a word K:S tells, whether or not it can be a share."""
    name, colon, share = word.partition(":")
    return number_of(name), number_of(share)


def spot_and_shares(words, directions):
    """The spot and the row of rows (k, s) that the words tell, parted by the word by."""
    spot = spot_of(words[:directions], directions)
    shares = [share_of(word) for word in words[directions + 1:]]
    if words[directions:directions + 1] != ["by"] or not shares:
        raise NoWord()
    return spot, tuple(shares)


def row_of(words):
    """The row of numbers, unlike, that the words tell, put in order."""
    numbers = [number_of(word) for word in words]
    if not numbers or len(set(numbers)) != len(numbers):
        raise NoWord()
    return tuple(sorted(numbers))


def rows_of(words):
    """The rows that the words tell, parted by strokes."""
    parts = [[]]
    for word in words:
        if word == "|":
            parts.append([])
        else:
            parts[-1].append(word)
    return [row_of(part) for part in parts]


def two_rows(words):
    """The two rows that the words tell."""
    rows = rows_of(words)
    if len(rows) != 2:
        raise NoWord()
    return rows
