import unittest

from nearall.books import checked, reach, total, turned_about
from nearall.errors import NoBook, NoWord, Uneven

from support import (
    BOOKS, NO_BOOKS, OTHER_KINDS, UNEVEN, Anything, all_words, even_books, far, hold_refusals,
    hold_refusals_of_books, small_even_books,
)


class CheckedTest(unittest.TestCase):
    def test_a_book_is_told_as_it_is(self):
        for book in BOOKS:
            with self.subTest(book=book):
                self.assertEqual(checked(book), book)

    def test_every_small_book_is_one(self):
        for book in small_even_books():
            self.assertEqual(checked(book), book)

    def test_what_is_no_book_is_refused(self):
        hold_refusals(self, NoBook, checked, NO_BOOKS)


class ReachAndTotalTest(unittest.TestCase):
    def test_ordinary_books(self):
        book = (3, ((0, 1, 2), (2, 2, 2), (0, 0, 1)))
        for word, greatest, together in [
            ((0, 1, 2), 2, 4), ((2, 2, 2), 3, 5), ((0, 0, 1), 3, 5), ((0, 2, 2), 2, 4), ((1, 1, 0), 3, 8),
        ]:
            with self.subTest(word=word):
                self.assertEqual(reach(book, word), greatest)
                self.assertEqual(total(book, word), together)

    def test_a_word_that_stands_twice_counts_twice(self):
        book = (2, ((0, 0), (1, 1), (1, 1)))
        self.assertEqual(total(book, (0, 0)), 4)
        self.assertEqual(total(book, (1, 1)), 2)
        self.assertEqual(reach(book, (0, 0)), 2)

    def test_words_of_no_letters(self):
        for book in [(1, ((),)), (3, ((), (), ()))]:
            self.assertEqual(reach(book, ()), 0)
            self.assertEqual(total(book, ()), 0)

    def test_every_word_of_every_book(self):
        for book in even_books():
            letters, words = book
            for word in all_words(letters, len(words[0]))[:40]:
                away = [far(word, other) for other in words]
                self.assertEqual(reach(book, word), max(away))
                self.assertEqual(total(book, word), sum(away))

    def test_what_is_no_even_book_is_refused(self):
        hold_refusals_of_books(self, lambda thing: reach(thing, (0, 1)))
        hold_refusals_of_books(self, lambda thing: total(thing, (0, 1)))

    def test_what_is_no_word_is_refused(self):
        book = (2, ((0, 1), (1, 1)))
        things = OTHER_KINDS + [
            (0,), (0, 1, 1), (0, 2), (-1, 0), (2, 2), [0, 1], "01", (True, 0), (0, False), (0.0, 1), ("0", "1"),
            (None, 0), ((0,), 1), (0, Anything()), (0, 10 ** 5000), range(2), (0,) * 7,
        ]
        for ask in (reach, total):
            for number, thing in enumerate(things):
                with self.subTest(ask=ask, number=number), self.assertRaises(NoWord):
                    ask(book, thing)

    def test_what_is_no_word_of_no_letters_is_refused(self):
        for ask in (reach, total):
            for thing in [(0,), [], "", None, 0]:
                with self.subTest(ask=ask, thing=thing), self.assertRaises(NoWord):
                    ask((2, ((),)), thing)

    def test_the_refusal_named_first_is_told(self):
        for ask in (reach, total):
            with self.subTest(ask=ask):
                # Too many letters, words of unlike lengths, and no word.
                with self.assertRaises(NoBook):
                    ask((4, ((0, 1), (1,))), None)
                with self.assertRaises(NoBook):
                    ask(None, None)
                with self.assertRaises(Uneven):
                    ask(UNEVEN, None)
                with self.assertRaises(Uneven):
                    ask(UNEVEN, Anything())


class TurnedAboutTest(unittest.TestCase):
    def test_ordinary_books(self):
        self.assertEqual(turned_about((3, ((0, 1, 2), (2, 2, 1)))), (3, ((2, 1, 0), (1, 2, 2))))
        self.assertEqual(turned_about((2, ((0, 1, 1, 0, 0, 0),))), (2, ((0, 0, 0, 1, 1, 0),)))

    def test_uneven_books_and_words_of_no_letters(self):
        self.assertEqual(turned_about((2, ((0, 1), (1,)))), (2, ((1, 0), (1,))))
        self.assertEqual(turned_about((3, ((), (0, 1, 2), (2, 0)))), (3, ((), (2, 1, 0), (0, 2))))
        self.assertEqual(turned_about((1, ((),))), (1, ((),)))

    def test_twice_turned_about_is_the_book(self):
        for book in BOOKS + list(even_books()):
            once = turned_about(book)
            self.assertEqual(checked(once), once)
            self.assertEqual(turned_about(once), book)

    def test_what_is_no_book_is_refused(self):
        hold_refusals(self, NoBook, turned_about, NO_BOOKS)


if __name__ == "__main__":
    unittest.main()
