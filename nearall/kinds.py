"""Kinds of places, and the book that has a list of them."""

from nearall.books import LONGEST_WORD, MOST_LETTERS, MOST_WORDS, even_length, is_whole_within, is_word
from nearall.errors import NoBook


def kind_of(column):
    numbers = {}
    for letter in column:
        numbers.setdefault(letter, len(numbers))
    return tuple([numbers[letter] for letter in column])


def kinds(book):
    counts = {}
    for place in range(even_length(book)):
        kind = kind_of([word[place] for word in book[1]])
        counts[kind] = counts.get(kind, 0) + 1
    return sorted(counts.items())


def is_kind(thing, letters):
    return is_word(thing, letters, MOST_WORDS) and len(thing) > 0 and kind_of(thing) == thing


def is_row(thing, letters):
    if not isinstance(thing, tuple) or len(thing) != 2:
        return False
    return is_kind(thing[0], letters) and is_whole_within(thing[1], 1, LONGEST_WORD)


def is_list_of_kinds(thing, letters):
    if not isinstance(thing, list) or not 1 <= len(thing) <= LONGEST_WORD:
        return False
    if not all([is_row(row, letters) for row in thing]):
        return False
    if sum([row[1] for row in thing]) > LONGEST_WORD:
        return False
    if any([len(row[0]) != len(thing[0][0]) for row in thing]):
        return False
    # No kind stands twice: a book's list tells all places of a kind in one row.
    return all([one[0] < other[0] for one, other in zip(thing, thing[1:])])


def book_of(letters, some):
    if not is_whole_within(letters, 1, MOST_LETTERS):
        raise NoBook("a book has 1 to 3 letters")
    if not is_list_of_kinds(some, letters):
        raise NoBook("this is no list of kinds of a book of so many letters")
    places = []
    for kind, how_many in some:
        places.extend([kind] * how_many)
    words = [tuple([kind[number] for kind in places]) for number in range(len(some[0][0]))]
    return (letters, tuple(words))
