"""Books made from books: with a word more or without one, joined, and growing word by word."""

from nearall.books import LONGEST_WORD, MOST_WORDS, checked, even_length, is_whole_within, is_word
from nearall.errors import NoNumber, NoWord, TooBig, Unlike
from nearall.nearest import nearest


def with_word(book, word):
    checked(book)
    if len(book[1]) == MOST_WORDS:
        raise TooBig("a book has at most 5 words")
    if not is_word(word, book[0], LONGEST_WORD):
        raise NoWord("this is no word of the book's letters of 0 to 6")
    return (book[0], book[1] + (word,))


def without(book, number):
    checked(book)
    words = book[1]
    if not is_whole_within(number, 0, len(words) - 1):
        raise NoNumber("no word of the book has this number")
    if len(words) == 1:
        raise TooBig("the only word of a book can't go")
    return (book[0], words[:number] + words[number + 1:])


def joined(one, other):
    checked(one)
    checked(other)
    if one[0] != other[0] or len(one[1]) != len(other[1]):
        raise Unlike("the books have not as many letters and words")
    words = [front + behind for front, behind in zip(one[1], other[1])]
    if any([len(word) > LONGEST_WORD for word in words]):
        raise TooBig("a word of a book has at most 6 letters")
    return (one[0], tuple(words))


def growing(book):
    even_length(book)
    return [nearest((book[0], book[1][:how_many]))[0] for how_many in range(1, len(book[1]) + 1)]
