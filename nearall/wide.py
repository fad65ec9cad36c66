"""Reach and sum with gaps, and the least of each over words of whatever length."""

from nearall.books import checked, is_word
from nearall.errors import NoWord, TooBig
from nearall.gaps import LONGEST_WITH_GAPS, fewest, next_row, row_of_empty

LONGEST_OF_BOOK = 4


def check_short(book):
    checked(book)
    if any([len(word) > LONGEST_OF_BOOK for word in book[1]]):
        raise TooBig("with gaps the words of a book have at most 4 letters")


def steps_away(book, word):
    check_short(book)
    if not is_word(word, book[0], LONGEST_WITH_GAPS):
        raise NoWord("this is no word of the book's letters of 0 to 9")
    return [fewest(word, other) for other in book[1]]


def wide_reach(book, word):
    return max(steps_away(book, word))


def wide_sum(book, word):
    return sum(steps_away(book, word))


def longer_by_one(book, word, rows):
    longer = []
    for letter in range(book[0]):
        longer_rows = [next_row(row, letter, other) for row, other in zip(rows, book[1])]
        longer.append((word + (letter,), longer_rows))
    return longer


def lengthened(book, begun, measure, least):
    # A way from a longer word leads its beginning to some beginning of the other word, so
    # the least numbers of the rows are a bound for all words that begin so. These come later
    # in order: only where they may fall below the least is it worth going on. The bound
    # grows with the length, so at some length nothing is left.
    longer = []
    for word, rows in begun:
        if measure([min(row) for row in rows]) < least:
            longer.extend(longer_by_one(book, word, rows))
    return longer


def lesser(begun, measure, least):
    for word, rows in begun:
        number = measure([row[-1] for row in rows])
        # The words come in order, so only a lesser number takes the place of an earlier word.
        if number < least[0]:
            least = (number, word)
    return least


def least_by(book, measure):
    check_short(book)
    begun = [((), [row_of_empty(other) for other in book[1]])]
    least = (measure([len(other) for other in book[1]]), ())
    while len(begun) > 0:
        begun = lengthened(book, begun, measure, least[0])
        least = lesser(begun, measure, least)
    return least


def wide_nearest(book):
    return least_by(book, lambda numbers: max(numbers))


def wide_least_sum(book):
    return least_by(book, lambda numbers: sum(numbers))
