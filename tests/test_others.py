import unittest
from itertools import product

from nearall.books import checked
from nearall.errors import NoBook, NoNumber, NoWord, TooBig, Unlike
from nearall.nearest import nearest
from nearall.others import growing, joined, with_word, without
from nearall.sums import least_sum

from support import (
    BOOKS, NO_BOOKS, NO_NUMBERS, NO_WORDS, OTHER_KINDS, Anything, all_words, even_books, gone_through, hold_refusals,
    hold_refusals_of_books, large_even_books, words_up_to,
)

FIVE = (2, ((0, 1), (), (1,), (1, 1), (0,)))
ONE = (2, ((0, 1),))


class WithWordTest(unittest.TestCase):
    def test_the_word_stands_behind(self):
        for book, word, told in [
            ((2, ((0, 1),)), (1, 1), (2, ((0, 1), (1, 1)))),
            ((2, ((1, 1), (0, 1))), (0, 0), (2, ((1, 1), (0, 1), (0, 0)))),
            ((2, ((0, 1),)), (0, 1), (2, ((0, 1), (0, 1)))),
            ((3, ((0, 1), ())), (2, 2, 2, 2, 2, 2), (3, ((0, 1), (), (2,) * 6))),
            ((1, ((), (), (), ())), (), (1, ((),) * 5)),
        ]:
            with self.subTest(book=book, word=word):
                self.assertEqual(with_word(book, word), told)

    def test_all_books_and_words(self):
        for book in BOOKS:
            for word in words_up_to(book[0], 2) + [(0,) * 6]:
                if len(book[1]) < 5:
                    told = with_word(book, word)
                    self.assertEqual(checked(told), told)
                    self.assertEqual(told, (book[0], tuple(list(book[1]) + [word])))
                else:
                    self.assertRaises(TooBig, with_word, book, word)

    def test_what_is_no_book_is_refused_first(self):
        for word in ((0, 1), None, Anything()):
            hold_refusals(self, NoBook, lambda thing: with_word(thing, word), NO_BOOKS)

    def test_a_sixth_word_is_refused_before_what_is_no_word(self):
        for word in [(), (0, 1), (0,) * 7, (2,)] + NO_WORDS:
            self.assertRaises(TooBig, with_word, FIVE, word)

    def test_what_is_no_word_is_refused(self):
        for letters in (1, 2, 3):
            things = NO_WORDS + [(letters,), (0, letters), (0,) * 5 + (letters,), (0,) * 7, (0,) * 50]
            for words in (((0, 0),), ((), (0,), (), (0,))):
                hold_refusals(self, NoWord, lambda thing: with_word((letters, words), thing), things)


class WithoutTest(unittest.TestCase):
    def test_ordinary_books(self):
        book = (3, ((0, 1), (2,), (0, 1), (), (1, 1, 1)))
        for number, words in [
            (0, ((2,), (0, 1), (), (1, 1, 1))),
            (1, ((0, 1), (0, 1), (), (1, 1, 1))),
            (2, ((0, 1), (2,), (), (1, 1, 1))),
            (3, ((0, 1), (2,), (0, 1), (1, 1, 1))),
            (4, ((0, 1), (2,), (0, 1), ())),
        ]:
            with self.subTest(number=number):
                self.assertEqual(without(book, number), (3, words))
        self.assertEqual(without((1, ((), (0,))), 0), (1, ((0,),)))
        self.assertEqual(without((1, ((), (0,))), 1), (1, ((),)))

    def test_a_word_that_came_can_go(self):
        for book in BOOKS:
            if len(book[1]) < 5:
                self.assertEqual(without(with_word(book, (0,)), len(book[1])), book)
            if len(book[1]) > 1:
                self.assertEqual(with_word(without(book, len(book[1]) - 1), book[1][-1]), book)

    def test_what_is_no_book_is_refused_first(self):
        for number in (0, 7, None, Anything()):
            hold_refusals(self, NoBook, lambda thing: without(thing, number), NO_BOOKS)

    def test_what_is_no_words_number_is_refused(self):
        for book in BOOKS:
            how_many = len(book[1])
            things = NO_NUMBERS + [how_many, how_many + 1, 10 ** 5000, -how_many, -10 ** 5000]
            hold_refusals(self, NoNumber, lambda thing: without(book, thing), things)

    def test_the_only_word_can_not_go(self):
        for book in (ONE, (1, ((),)), (3, ((0, 1, 2, 0, 1, 2),))):
            self.assertRaises(TooBig, without, book, 0)

    def test_what_is_no_number_is_refused_before_the_only_word(self):
        for number in (1, -1, 5, True, False, None, "0", 0.0):
            self.assertRaises(NoNumber, without, ONE, number)


class JoinedTest(unittest.TestCase):
    def test_ordinary_books(self):
        for one, other, told in [
            ((2, ((0, 1),)), (2, ((1, 1, 1),)), (2, ((0, 1, 1, 1, 1),))),
            ((2, ((1, 1, 1),)), (2, ((0, 1),)), (2, ((1, 1, 1, 0, 1),))),
            ((3, ((0, 1), (2, 2))), (3, ((1,), (0,))), (3, ((0, 1, 1), (2, 2, 0)))),
            ((3, ((0, 1), ())), (3, ((), (2,))), (3, ((0, 1), (2,)))),
            ((1, ((),)), (1, ((),)), (1, ((),))),
            ((2, ((0, 0, 0),) * 5), (2, ((1, 1, 1),) * 5), (2, ((0, 0, 0, 1, 1, 1),) * 5)),
            ((2, ((), (0,) * 6)), (2, ((1,) * 6, ())), (2, ((1,) * 6, (0,) * 6))),
        ]:
            with self.subTest(one=one, other=other):
                self.assertEqual(joined(one, other), told)

    def test_every_pair_of_books(self):
        books = BOOKS + list(large_even_books())
        for one, other in product(books, repeat=2):
            if (one[0], len(one[1])) != (other[0], len(other[1])):
                self.assertRaises(Unlike, joined, one, other)
            elif max(len(front) + len(behind) for front, behind in zip(one[1], other[1])) > 6:
                self.assertRaises(TooBig, joined, one, other)
            else:
                told = joined(one, other)
                self.assertEqual(checked(told), told)
                for front, behind, word in zip(one[1], other[1], told[1], strict=True):
                    self.assertEqual(list(word), list(front) + list(behind))

    def test_sums_come_together_and_reaches_are_no_more(self):
        for letters, how_many in ((2, 3), (3, 2)):
            books = [(letters, words) for words in product(all_words(letters, 2), repeat=how_many)]
            for one, other in product(books[::5], books[::7]):
                told = joined(one, other)
                self.assertEqual(least_sum(told)[0], least_sum(one)[0] + least_sum(other)[0])
                self.assertLessEqual(nearest(told)[0], nearest(one)[0] + nearest(other)[0])

    def test_what_is_no_book_is_refused_first_of_either(self):
        for book in (ONE, FIVE, (1, ((0,) * 6,))):
            hold_refusals(self, NoBook, lambda thing: joined(thing, book), NO_BOOKS)
            hold_refusals(self, NoBook, lambda thing: joined(book, thing), NO_BOOKS)
        hold_refusals(self, NoBook, lambda thing: joined(thing, thing), NO_BOOKS)

    def test_unlike_books_are_refused(self):
        for one, other in [
            ((2, ((0,),)), (3, ((0,),))), ((3, ((0,),)), (2, ((0,),))), ((1, ((),)), (2, ((),))),
            ((2, ((0,),)), (2, ((0,), (1,)))), ((2, ((0,), (1,))), (2, ((0,),))), (ONE, FIVE), (FIVE, ONE),
            ((2, ((), ())), (3, ((),))),
        ]:
            with self.subTest(one=one, other=other):
                self.assertRaises(Unlike, joined, one, other)

    def test_unlike_books_are_refused_before_words_that_are_too_long(self):
        self.assertRaises(Unlike, joined, (2, ((0,) * 6,)), (3, ((0,) * 6,)))
        self.assertRaises(Unlike, joined, (2, ((0,) * 6,)), (2, ((0,) * 6, (0,) * 6)))

    def test_words_that_are_too_long_are_refused(self):
        for one, other in [
            ((2, ((0,) * 6,)), (2, ((1,),))), ((2, ((0,),)), (2, ((1,) * 6,))), ((2, ((0,) * 6,)), (2, ((1,) * 6,))),
            ((2, ((0,) * 4,)), (2, ((1,) * 3,))), ((2, ((), (0,) * 3)), (2, ((), (1,) * 4))),
            ((3, ((0,) * 6, ())), (3, ((1,), ()))),
        ]:
            with self.subTest(one=one, other=other):
                self.assertRaises(TooBig, joined, one, other)


class GrowingTest(unittest.TestCase):
    def test_written_answers(self):
        for book, told in [
            ((1, ((),)), [0]),
            ((3, ((),) * 5), [0, 0, 0, 0, 0]),
            ((2, ((0, 1, 1),)), [0]),
            ((2, ((0, 0, 0, 0), (0, 0, 1, 1), (1, 1, 1, 1))), [0, 1, 2]),
            ((2, ((0, 0, 0, 0), (1, 1, 1, 1), (0, 0, 1, 1))), [0, 2, 2]),
            ((3, ((0,) * 6, (1,) * 6, (2,) * 6)), [0, 3, 4]),
            ((3, ((2, 1), (2, 1), (2, 0), (0, 0), (1, 2))), [0, 0, 1, 1, 2]),
        ]:
            with self.subTest(book=book):
                self.assertEqual(growing(book), told)

    def test_the_least_reaches_of_the_first_words(self):
        for book in even_books():
            letters, words = book
            reaches = []
            for how_many in range(1, len(words) + 1):
                reaches.append(min(reach for _, reach, _ in gone_through((letters, words[:how_many]))))
            self.assertEqual(growing(book), reaches, book)

    def test_the_list_is_a_new_one_each_time(self):
        book = (2, ((0, 0), (1, 1)))
        first = growing(book)
        first.append(7)
        self.assertEqual(growing(book), [0, 1])
        self.assertIs(type(first), list)

    def test_what_is_no_even_book_is_refused(self):
        hold_refusals_of_books(self, growing)
        # The first words alone would be an even book.
        hold_refusals(self, NoBook, growing, [(2, ((0,), (1,), (2,)))] + OTHER_KINDS)


if __name__ == "__main__":
    unittest.main()
