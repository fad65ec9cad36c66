import unittest

from nearall.books import total, turned_about
from nearall.nearest import nearest_of_all
from nearall.sums import count_least_sum, least_sum

from support import even_books, gone_through, hold_refusals_of_books


class AgainstAllWordsTest(unittest.TestCase):
    def test_the_least_sum_and_the_first_word_that_has_it(self):
        for book in even_books():
            told = gone_through(book)
            least = min(together for _, _, together in told)
            first = [word for word, _, together in told if together == least][0]
            self.assertEqual(least_sum(book), (least, first), book)

    def test_how_many_words_have_it(self):
        for book in even_books():
            told = gone_through(book)
            least = min(together for _, _, together in told)
            self.assertEqual(count_least_sum(book), sum(together == least for _, _, together in told), book)


class WrittenAnswersTest(unittest.TestCase):
    def test_the_more_frequent_letter_at_each_place(self):
        book = (3, ((0, 1, 2), (0, 2, 2), (1, 2, 0)))
        self.assertEqual(least_sum(book), (3, (0, 2, 2)))
        self.assertEqual(count_least_sum(book), 1)

    def test_letters_that_are_as_frequent(self):
        book = (2, ((0, 0, 0), (1, 1, 0)))
        self.assertEqual(least_sum(book), (2, (0, 0, 0)))
        self.assertEqual(count_least_sum(book), 4)
        book = (3, ((2, 0), (1, 0), (0, 0)))
        self.assertEqual(least_sum(book), (2, (0, 0)))
        self.assertEqual(count_least_sum(book), 3)

    def test_the_first_word_need_not_begin_with_letter_0(self):
        book = (3, ((2,), (1,)))
        self.assertEqual(least_sum(book), (1, (1,)))
        self.assertEqual(count_least_sum(book), 2)

    def test_the_least_sum_may_be_that_of_a_word_of_great_reach(self):
        book = (2, ((0, 0, 0, 0), (0, 0, 0, 0), (1, 1, 1, 1)))
        self.assertEqual(least_sum(book), (4, (0, 0, 0, 0)))
        self.assertEqual(nearest_of_all(book)[1], 6)
        self.assertEqual(count_least_sum(book), 1)


class EdgesTest(unittest.TestCase):
    def test_a_book_of_one_word(self):
        book = (3, ((2, 0, 1, 1, 2, 0),))
        self.assertEqual(least_sum(book), (0, (2, 0, 1, 1, 2, 0)))
        self.assertEqual(count_least_sum(book), 1)

    def test_a_book_of_one_letter(self):
        book = (1, ((0,) * 6,) * 5)
        self.assertEqual(least_sum(book), (0, (0,) * 6))
        self.assertEqual(count_least_sum(book), 1)

    def test_a_book_of_length_0(self):
        for book in [(1, ((),)), (3, ((), (), (), (), ()))]:
            self.assertEqual(least_sum(book), (0, ()))
            self.assertEqual(count_least_sum(book), 1)

    def test_all_words_have_the_least_sum(self):
        book = (3, ((0,) * 6, (1,) * 6, (2,) * 6))
        self.assertEqual(least_sum(book), (12, (0,) * 6))
        self.assertEqual(count_least_sum(book), 729)

    def test_the_word_has_the_sum_and_turned_about_nothing_else_changes(self):
        for book in even_books():
            together, word = least_sum(book)
            self.assertEqual(total(book, word), together)
            self.assertEqual(least_sum(turned_about(book))[0], together)
            self.assertEqual(count_least_sum(turned_about(book)), count_least_sum(book))


class RefusalsTest(unittest.TestCase):
    def test_what_is_no_even_book_is_refused(self):
        hold_refusals_of_books(self, least_sum)
        hold_refusals_of_books(self, count_least_sum)


if __name__ == "__main__":
    unittest.main()
