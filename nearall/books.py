"""Books of words, and how far a word and the words of a book are apart."""

from nearall.errors import NoBook, NoNumber, NoWord, Uneven

MOST_LETTERS = 3
MOST_WORDS = 5
LONGEST_WORD = 6


def is_whole(thing):
    # Python counts True and False among its whole numbers; here they are none.
    return isinstance(thing, int) and not isinstance(thing, bool)


def is_whole_within(thing, least, most):
    return is_whole(thing) and least <= thing <= most


def begins_with_text(thing):
    # What begins a thing of any kind may be compared with texts only if it is one.
    return isinstance(thing, tuple) and len(thing) > 0 and isinstance(thing[0], str)


def is_word(thing, letters, longest):
    if not isinstance(thing, tuple) or len(thing) > longest:
        return False
    return all([is_whole_within(letter, 0, letters - 1) for letter in thing])


def is_book(thing):
    if not isinstance(thing, tuple) or len(thing) != 2:
        return False
    letters = thing[0]
    words = thing[1]
    if not is_whole_within(letters, 1, MOST_LETTERS):
        return False
    if not isinstance(words, tuple) or not 1 <= len(words) <= MOST_WORDS:
        return False
    return all([is_word(word, letters, LONGEST_WORD) for word in words])


def checked(book):
    # No refusal shows what was handed in: not everything can be shown.
    if not is_book(book):
        raise NoBook("a book is a tuple of 1 to 3 letters and of 1 to 5 words of 0 to 6 letters")
    return book


def turned_about(book):
    checked(book)
    return (book[0], tuple([word[::-1] for word in book[1]]))


def even_length(book):
    checked(book)
    length = len(book[1][0])
    if any([len(word) != length for word in book[1]]):
        raise Uneven("the words of the book are not all as long")
    return length


def check_word(book, word):
    length = even_length(book)
    if not is_word(word, book[0], length) or len(word) != length:
        raise NoWord("this is no word of the book's length and letters")


def check_number(thing):
    if not is_whole(thing) or thing < 0:
        raise NoNumber("a reach is a whole number from 0 on")


def apart(one, other):
    return len([place for place in range(len(one)) if one[place] != other[place]])


def distances(book, word):
    return [apart(word, other) for other in book[1]]


def reach(book, word):
    check_word(book, word)
    return max(distances(book, word))


def total(book, word):
    check_word(book, word)
    return sum(distances(book, word))


def words_of_length(letters, length):
    # Longer words are made from shorter ones in order, so they come in order too.
    words = [()]
    for place in range(length):
        longer = []
        for word in words:
            longer.extend([word + (letter,) for letter in range(letters)])
        words = longer
    return words
