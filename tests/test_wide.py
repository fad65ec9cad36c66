import unittest
from itertools import combinations, product

from nearall.errors import NoBook, NoWord, TooBig
from nearall.wide import wide_least_sum, wide_nearest, wide_reach, wide_sum

from support import NO_BOOKS, NO_WORDS, Anything, hold_refusals, steps_between, words_up_to

TOO_BIG = [
    (2, ((0,) * 5,)), (1, ((0,) * 6,)), (3, ((0, 1), (0, 1, 2, 0, 1))), (2, ((0, 1, 0, 1, 0), ())),
    (2, ((0,) * 6,) * 5), (3, ((), (0,), (0, 1), (2, 1, 0), (0, 1, 2, 0, 1))),
]


def small_books():
    """Every book of a few small shapes, its words of whatever lengths."""
    for letters, longest, how_many in [(1, 4, 1), (1, 4, 2), (1, 3, 4), (2, 2, 3), (2, 3, 2), (2, 4, 1), (3, 2, 2)]:
        for words in product(words_up_to(letters, longest), repeat=how_many):
            yield (letters, words)


# Books for which the first word with the least reach is longer than all words of the book.
LONGER_IS_NEARER = [
    ((3, ((0, 0, 1), (0, 2, 0), (2, 0, 1))), (1, (0, 2, 0, 1))),
    ((2, ((0, 0, 1, 0), (1, 0, 0, 0), (1, 0, 0, 1))), (1, (1, 0, 0, 1, 0))),
    ((2, ((0, 1, 1, 1), (0, 1, 1, 1), (1, 1, 0, 1), (0, 1, 0, 1), (0, 1, 1, 0))), (1, (0, 1, 1, 0, 1))),
    ((3, ((2, 1, 1, 1), (1, 1, 1, 2), (0, 1, 0, 2), (0, 2, 1, 1), (1, 2, 2, 1))), (2, (0, 1, 1, 2, 1))),
]

# The same for the least sum.
LONGER_HAS_LESS = [
    ((3, ((0, 2, 1, 0), (1, 0, 1, 0), (1, 0, 2, 1))), (3, (1, 0, 2, 1, 0))),
]

LARGE_BOOKS = [book for book, told in LONGER_IS_NEARER + LONGER_HAS_LESS] + [
    (2, ((0, 0, 0, 0), (1, 1, 1, 1))),
    (2, ((0, 1, 0, 1), (1, 0, 1, 0), (0, 0, 1, 1))),
    (2, ((0, 1, 1, 0), (1, 1), (1, 0, 0, 1), (0, 0, 0), (1, 1, 1, 1))),
    (2, ((0, 1, 1, 1), (1, 1, 1, 0), (1, 1, 0, 1), (1, 0, 1, 1))),
    (2, ((), (0, 1, 0, 1), (1,))),
    (3, ((0, 0, 0, 0), (1, 1, 1, 1), (2, 2, 2, 2))),
    (3, ((0, 1, 2, 0), (1, 2, 0, 1), (2, 0, 1, 2))),
    (3, ((2, 1, 1, 2), (0, 2, 0, 1), (0, 1, 2, 0), (1, 2, 0, 0), (0, 1, 1, 2))),
    (3, ((1, 1, 2, 0), (1, 2, 2, 2), (2, 1, 0, 1), (2, 2, 0, 0), (2, 1, 1, 1))),
    (3, ((0, 1, 2), (2, 1, 0, 0), (1, 1), (2, 2, 2, 0))),
]


def told_by_all_words(book):
    """The least reach and the least sum, each with the first word that has it, of all words that may have it."""
    letters, words = book
    # A word of more than twice as many letters as the longest one is farther from each than the empty word is.
    longest = 2 * max(len(word) for word in words)
    reaches = []
    sums = []
    for word in words_up_to(letters, longest):
        away = [steps_between(word, other) for other in words]
        reaches.append((max(away), len(word), word))
        sums.append((sum(away), len(word), word))
    return [(number, word) for number, _, word in (min(reaches), min(sums))]


class WideReachAndSumTest(unittest.TestCase):
    def test_written_answers(self):
        book = (3, ((0, 1, 2), (1, 2), (), (2, 2, 2, 2)))
        for word, greatest, together in [
            ((), 4, 9), ((1, 2), 3, 6), ((0, 1, 2), 3, 7), ((2, 2), 2, 7),
            ((0, 1, 2, 0, 1, 2, 0, 1, 2), 9, 6 + 7 + 9 + 6),
        ]:
            with self.subTest(word=word):
                self.assertEqual(wide_reach(book, word), greatest)
                self.assertEqual(wide_sum(book, word), together)

    def test_a_word_that_stands_twice_counts_twice(self):
        book = (2, ((0, 0), (1,), (1,)))
        self.assertEqual(wide_sum(book, (0, 0)), 4)
        self.assertEqual(wide_sum(book, (1,)), 2)
        self.assertEqual(wide_reach(book, (0, 0)), 2)

    def test_every_short_word_of_every_book(self):
        for book in list(small_books()) + LARGE_BOOKS:
            for word in words_up_to(book[0], 2):
                away = [steps_between(word, other) for other in book[1]]
                self.assertEqual(wide_reach(book, word), max(away))
                self.assertEqual(wide_sum(book, word), sum(away))

    def test_words_of_nine_letters(self):
        for book in LARGE_BOOKS:
            for word in [(0,) * 9, (0, 1) * 4 + (0,), (1, 1, 0, 0, 1, 0, 1, 1, 0)]:
                away = [steps_between(word, other) for other in book[1]]
                self.assertEqual(wide_reach(book, word), max(away))
                self.assertEqual(wide_sum(book, word), sum(away))

    def test_what_is_no_book_is_refused(self):
        for ask in (wide_reach, wide_sum):
            for word in [(), (0, 1), None, Anything()]:
                hold_refusals(self, NoBook, lambda thing: ask(thing, word), NO_BOOKS)

    def test_a_book_with_a_word_of_more_than_4_letters_is_refused(self):
        for ask in (wide_reach, wide_sum):
            for word in [(), (0, 1), None, (5,), (0,) * 10, Anything()]:
                hold_refusals(self, TooBig, lambda thing: ask(thing, word), TOO_BIG)

    def test_what_is_no_word_of_the_books_letters_is_refused(self):
        for ask in (wide_reach, wide_sum):
            for letters in (1, 2, 3):
                book = (letters, ((0, 0), (0,)))
                things = NO_WORDS + [(letters,), (0, letters), (0,) * 8 + (letters,), (0,) * 10, (0,) * 50]
                hold_refusals(self, NoWord, lambda thing: ask(book, thing), things)


class WideLeastTest(unittest.TestCase):
    def test_written_answers(self):
        for book, nearest, least in [
            ((1, ((),)), (0, ()), (0, ())),
            ((3, ((), (), ())), (0, ()), (0, ())),
            ((3, ((2, 0, 1, 1),)), (0, (2, 0, 1, 1)), (0, (2, 0, 1, 1))),
            # The empty word has the same reach as words of one letter, and stands before them.
            ((2, ((0,), (1,))), (1, ()), (1, (0,))),
            ((2, ((1,), (0,))), (1, ()), (1, (0,))),
            ((2, ((0, 1), (1, 0))), (1, (0,)), (2, (0,))),
            ((1, ((), (0, 0, 0, 0))), (2, (0, 0)), (4, ())),
            ((3, ((2, 2), (2, 2), (0,))), (1, (2,)), (2, (2, 2))),
            ((2, ((0, 0, 0, 0), (1, 1, 1, 1))), (2, (0, 0, 1, 1)), (4, (0, 0, 0, 0))),
            ((3, ((0, 0, 0, 0), (1, 1, 1, 1), (2, 2, 2, 2))), (3, (0, 1, 2)), (8, (0, 0, 0, 0))),
        ]:
            with self.subTest(book=book):
                self.assertEqual(wide_nearest(book), nearest)
                self.assertEqual(wide_least_sum(book), least)

    def test_words_longer_than_all_words_of_the_book(self):
        for ask, rows in ((wide_nearest, LONGER_IS_NEARER), (wide_least_sum, LONGER_HAS_LESS)):
            for book, told in rows:
                with self.subTest(ask=ask, book=book):
                    self.assertEqual(ask(book), told)

    def test_the_least_of_all_words_in_order(self):
        for book in small_books():
            self.assertEqual([wide_nearest(book), wide_least_sum(book)], told_by_all_words(book), book)

    def test_larger_books(self):
        for book in LARGE_BOOKS:
            with self.subTest(book=book):
                self.assertEqual([wide_nearest(book), wide_least_sum(book)], told_by_all_words(book))

    def test_the_word_told_has_what_is_told_of_it(self):
        for book in list(small_books()) + LARGE_BOOKS:
            number, word = wide_nearest(book)
            self.assertEqual(wide_reach(book, word), number)
            number, word = wide_least_sum(book)
            self.assertEqual(wide_sum(book, word), number)

    def test_neither_is_below_what_the_words_are_apart(self):
        for book in list(small_books()) + LARGE_BOOKS:
            apart = [steps_between(one, other) for one, other in combinations(book[1], 2)]
            for away in apart:
                self.assertGreaterEqual(2 * wide_nearest(book)[0], away, book)
            self.assertGreaterEqual(wide_least_sum(book)[0] * (len(book[1]) - 1), sum(apart), book)

    def test_what_is_no_book_is_refused(self):
        for ask in (wide_nearest, wide_least_sum):
            hold_refusals(self, NoBook, ask, NO_BOOKS + [(4, ((0,) * 5,)), (2, ((0,) * 5, (2,)))])

    def test_a_book_with_a_word_of_more_than_4_letters_is_refused(self):
        for ask in (wide_nearest, wide_least_sum):
            hold_refusals(self, TooBig, ask, TOO_BIG)


if __name__ == "__main__":
    unittest.main()
