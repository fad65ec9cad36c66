import unittest
from itertools import product

from nearall.errors import NoBook, NoText
from nearall.texts import read, shown

from support import BOOKS, NO_BOOKS, OTHER_KINDS, even_books, hold_refusals, words_up_to

WRITTEN = [
    ((2, ((0, 1),)), "2/01"),
    ((3, ((0, 1, 2), (2, 2), (1,))), "3/012/22/1"),
    ((1, ((),)), "1/"),
    ((1, ((), ())), "1//"),
    ((3, ((),) * 5), "3/////"),
    ((2, ((), (0,), ())), "2//0/"),
    ((1, ((0,) * 6,) * 5), "1/000000/000000/000000/000000/000000"),
    ((3, ((2, 1, 0, 2, 1, 0), ())), "3/210210/"),
]


def small_books():
    for letters, longest, how_many in [(1, 6, 2), (2, 2, 3), (3, 2, 2), (3, 3, 1), (2, 1, 5)]:
        for words in product(words_up_to(letters, longest), repeat=how_many):
            yield (letters, words)


def written(book):
    letters, words = book
    return str(letters) + "".join("/" + "".join(map(str, word)) for word in words)


def is_written_book(text):
    """Whether a text is how a book is written, told from its signs alone."""
    if text[:1] not in ("1", "2", "3") or text[1:2] != "/":
        return False
    words = text[2:].split("/")
    figures = "012"[:int(text[0])]
    return len(words) <= 5 and all(len(word) <= 6 and all(sign in figures for sign in word) for word in words)


class ShownTest(unittest.TestCase):
    def test_written_answers(self):
        for book, text in WRITTEN:
            with self.subTest(book=book):
                self.assertEqual(shown(book), text)

    def test_all_books(self):
        for books in (BOOKS, small_books(), even_books()):
            for book in books:
                self.assertEqual(shown(book), written(book))

    def test_what_is_no_book_is_refused(self):
        hold_refusals(self, NoBook, shown, NO_BOOKS)


class ReadTest(unittest.TestCase):
    def test_written_answers(self):
        for book, text in WRITTEN:
            with self.subTest(text=text):
                self.assertEqual(read(text), book)

    def test_what_is_shown_is_read_back(self):
        for books in (BOOKS, small_books(), even_books()):
            for book in books:
                self.assertEqual(read(shown(book)), book)

    def test_all_short_texts(self):
        for length in range(7):
            for signs in product("0123/", repeat=length):
                text = "".join(signs)
                if is_written_book(text):
                    self.assertEqual(shown(read(text)), text)
                else:
                    self.assertRaises(NoText, read, text)

    def test_a_sign_more_or_another_one_is_refused(self):
        others = "4569-+ \n\t\r\0.,;:_\\ax\u0662\u00b2\u0967\uff11\u2460\U0001d7cf"
        for text in ("2/01/1", "3/", "1/0//000000"):
            for sign in others:
                for place in range(len(text) + 1):
                    self.assertRaises(NoText, read, text[:place] + sign + text[place:])
                    self.assertRaises(NoText, read, text[:place] + sign + text[place + 1:])

    def test_what_is_no_text_is_refused(self):
        no_texts = [thing for thing in OTHER_KINDS if type(thing) is not str]
        no_texts += [b"2/01", ["2/01"], ("2/01",), (2, ((0, 1),)), list("2/01"), {"2/01": 1}, bytearray(b"2/01"), 2]
        hold_refusals(self, NoText, read, no_texts)

    def test_texts_that_no_book_is_written_as_are_refused(self):
        hold_refusals(self, NoText, read, NO_TEXTS)


NO_TEXTS = [
    # no words, or no letters
    "", "1", "2", "3", "/", "//", "/0", "/01", "2 ", " ",
    # the number of letters
    "0/", "0/0", "4/", "4/0", "4/3", "9/0", "-1/", "+2/01", "02/01", "12/01", "22/01", "2 /01", " 2/01", "2.0/01",
    "1_/0", "two/01", "01/0", "10/0", "\u0662/01", "\u00b2/01", "\uff12/01",
    # letters
    "1/1", "2/2", "3/3", "2/01/02", "3/0123", "2/0-1", "2/-1", "2/0 1", "2/0,1", "2/ ", "2/01 ", "2/01\n", "2/x",
    "2/\u0660", "2/\u0661", "2/\uff10", "2/\u00b9", "2/0_1", "2/+1", "2/True", "2/(0, 1)",
    # how many words, and how long they are
    "2//////", "1/0/0/0/0/0/0", "2/0000000", "2/0/1111111", "2/01//////", "2/" + "0" * 10000, "2" + "/0" * 10000,
    # other signs between the words
    "2\\01", "2|01", "2:01", "2,01", "2/01,10", "2/01 10", "2/01/10;", "(2/01)", "'2/01'", "2\n/01",
    "2\u204401", "2\uff0f01",
    # the other way round
    "01/2", "01/10",
]


if __name__ == "__main__":
    unittest.main()
