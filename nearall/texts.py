"""Books written as texts, and read back."""

from nearall.books import checked, is_book
from nearall.errors import NoText

FIGURES = "0123"


def written(numbers):
    return "".join([FIGURES[number] for number in numbers])


def numbers_of(part):
    # A sign that is no figure here gives -1, which no book holds; Python itself
    # would read figures of other scripts as well.
    return tuple([FIGURES.find(sign) for sign in part])


def shown(book):
    checked(book)
    parts = [(book[0],)] + list(book[1])
    return "/".join([written(numbers) for numbers in parts])


def read(text):
    if not isinstance(text, str):
        raise NoText("this is no text")
    parts = [numbers_of(part) for part in text.split("/")]
    if len(parts[0]) != 1:
        raise NoText("a book's text begins with one figure, its number of letters")
    book = (parts[0][0], tuple(parts[1:]))
    if not is_book(book):
        raise NoText("no book is written so")
    return book
