import unittest

from nearall.books import turned_about
from nearall.errors import NoBook, NoNumber, Uneven
from nearall.nearest import count_within, first_within, nearest, nearest_of_all

from support import NO_NUMBERS, UNEVEN, Anything, even_books, gone_through, hold_refusals_of_books


class AgainstAllWordsTest(unittest.TestCase):
    def test_nearest(self):
        for book in even_books():
            told = gone_through(book)
            least = min(reach for _, reach, _ in told)
            first = [word for word, reach, _ in told if reach == least][0]
            self.assertEqual(nearest(book), (least, first), book)

    def test_nearest_of_all(self):
        for book in even_books():
            told = gone_through(book)
            least = min(reach for _, reach, _ in told)
            near = [(word, together) for word, reach, together in told if reach == least]
            lowest = min(together for _, together in near)
            first = [word for word, together in near if together == lowest][0]
            self.assertEqual(nearest_of_all(book), (least, lowest, first), book)

    def test_within(self):
        for book in even_books():
            told = gone_through(book)
            length = len(book[1][0])
            for most in range(length + 2):
                within = [word for word, reach, _ in told if reach <= most]
                self.assertEqual(count_within(book, most), len(within), (book, most))
                self.assertEqual(first_within(book, most), within[0] if within else None, (book, most))


class WrittenAnswersTest(unittest.TestCase):
    def test_two_words(self):
        book = (2, ((0, 0, 0, 0), (1, 1, 1, 1)))
        self.assertEqual(nearest(book), (2, (0, 0, 1, 1)))
        self.assertEqual(nearest_of_all(book), (2, 4, (0, 0, 1, 1)))
        self.assertEqual([count_within(book, most) for most in range(6)], [0, 0, 6, 14, 16, 16])
        self.assertEqual(
            [first_within(book, most) for most in range(5)],
            [None, None, (0, 0, 1, 1), (0, 0, 0, 1), (0, 0, 0, 0)],
        )

    def test_the_first_nearest_word_need_not_have_the_least_sum(self):
        book = (3, ((1, 1), (1, 2)))
        self.assertEqual(nearest(book), (1, (1, 0)))
        self.assertEqual(nearest_of_all(book), (1, 1, (1, 1)))

    def test_the_least_sum_is_that_of_the_nearest_words_alone(self):
        # (0, 0, 0, 0) has a sum of 4, but a reach of 4.
        book = (2, ((0, 0, 0, 0), (0, 0, 0, 0), (1, 1, 1, 1)))
        self.assertEqual(nearest_of_all(book), (2, 6, (0, 0, 1, 1)))

    def test_a_letter_that_no_word_has_may_be_the_first(self):
        self.assertEqual(nearest((3, ((1,), (2,)))), (1, (0,)))
        self.assertEqual(nearest_of_all((3, ((1,), (2,)))), (1, 1, (1,)))


class EdgesTest(unittest.TestCase):
    def test_a_book_of_one_word(self):
        book = (3, ((2, 0, 1),))
        self.assertEqual(nearest(book), (0, (2, 0, 1)))
        self.assertEqual(nearest_of_all(book), (0, 0, (2, 0, 1)))
        self.assertEqual([count_within(book, most) for most in range(5)], [1, 7, 19, 27, 27])
        self.assertEqual(first_within(book, 0), (2, 0, 1))

    def test_a_book_of_one_letter(self):
        book = (1, ((0, 0, 0, 0, 0, 0),) * 5)
        self.assertEqual(nearest(book), (0, (0,) * 6))
        self.assertEqual(nearest_of_all(book), (0, 0, (0,) * 6))
        self.assertEqual(count_within(book, 0), 1)
        self.assertEqual(first_within(book, 3), (0,) * 6)

    def test_a_book_of_length_0(self):
        for book in [(1, ((),)), (3, ((), (), (), (), ()))]:
            self.assertEqual(nearest(book), (0, ()))
            self.assertEqual(nearest_of_all(book), (0, 0, ()))
            self.assertEqual(count_within(book, 0), 1)
            self.assertEqual(count_within(book, 4), 1)
            self.assertEqual(first_within(book, 0), ())

    def test_a_reach_of_the_length_and_above_takes_all_words(self):
        book = (3, ((0, 1, 2, 0, 1, 2), (1, 1, 1, 1, 1, 1), (2, 0, 2, 0, 2, 0)))
        for most in (6, 7, 100, 10 ** 5000):
            self.assertEqual(count_within(book, most), 729)
            self.assertEqual(first_within(book, most), (0,) * 6)

    def test_a_reach_of_0_takes_a_word_only_if_all_are_that_word(self):
        self.assertEqual(count_within((2, ((0, 1), (0, 1))), 0), 1)
        self.assertEqual(first_within((2, ((0, 1), (0, 1))), 0), (0, 1))
        self.assertEqual(count_within((2, ((0, 1), (1, 1))), 0), 0)
        self.assertIsNone(first_within((2, ((0, 1), (1, 1))), 0))

    def test_a_book_turned_about_has_the_same_reach_sum_and_counts(self):
        for book in even_books():
            other = turned_about(book)
            self.assertEqual(nearest(book)[0], nearest(other)[0])
            self.assertEqual(nearest_of_all(book)[:2], nearest_of_all(other)[:2])
            self.assertEqual(count_within(book, 2), count_within(other, 2))


class RefusalsTest(unittest.TestCase):
    def test_what_is_no_even_book_is_refused(self):
        hold_refusals_of_books(self, nearest)
        hold_refusals_of_books(self, nearest_of_all)
        hold_refusals_of_books(self, lambda thing: count_within(thing, 1))
        hold_refusals_of_books(self, lambda thing: first_within(thing, 1))

    def test_what_is_no_number_is_refused(self):
        for book in [(2, ((0, 1), (1, 1))), (1, ((),))]:
            for number, thing in enumerate(NO_NUMBERS):
                with self.subTest(book=book, number=number):
                    self.assertRaises(NoNumber, count_within, book, thing)
                    self.assertRaises(NoNumber, first_within, book, thing)

    def test_the_refusal_named_first_is_told(self):
        for ask in (count_within, first_within):
            with self.subTest(ask=ask):
                self.assertRaises(NoBook, ask, None, None)
                self.assertRaises(NoBook, ask, (4, ((0, 1), (1,))), -1)
                self.assertRaises(Uneven, ask, UNEVEN, -1)
                self.assertRaises(Uneven, ask, UNEVEN, Anything())


if __name__ == "__main__":
    unittest.main()
