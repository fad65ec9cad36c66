import unittest
from fractions import Fraction
from itertools import combinations, product
from math import gcd

from nearall.bounds import bound, far_pair
from nearall.errors import NoBook, NoWeights, Uneven
from nearall.nearest import nearest

from support import (
    NO_WEIGHTS, UNEVEN, Anything, even_books, far, gone_through, hold_refusals_of_books, large_even_books,
    least_weighed, some_weights,
)


class BoundTest(unittest.TestCase):
    def test_the_least_that_a_word_is_apart_from_all_by_weights(self):
        for book in even_books():
            for weights in some_weights(len(book[1])):
                told = bound(book, weights)
                self.assertEqual(Fraction(*told), Fraction(least_weighed(book, weights, {}), sum(weights)), book)

    def test_it_is_in_lowest_terms(self):
        for book in even_books():
            for weights in some_weights(len(book[1])):
                told = bound(book, weights)
                self.assertIs(type(told), tuple)
                up, down = told
                self.assertGreater(down, 0)
                self.assertGreaterEqual(up, 0)
                self.assertEqual(gcd(up, down), 1, (book, weights))

    def test_no_word_has_a_reach_below_it(self):
        for book in even_books():
            least = min(reach for _, reach, _ in gone_through(book))
            for weights in some_weights(len(book[1])):
                self.assertLessEqual(Fraction(*bound(book, weights)), least, (book, weights))

    def test_for_two_words_it_is_half_of_how_far_they_are_apart(self):
        for book in even_books():
            for one, other in combinations(range(len(book[1])), 2):
                weights = tuple(int(number in (one, other)) for number in range(len(book[1])))
                half = Fraction(far(book[1][one], book[1][other]), 2)
                self.assertEqual(bound(book, weights), (half.numerator, half.denominator))

    def test_written_answers(self):
        book = (3, ((0, 1, 2), (1, 1, 2), (2, 0, 2)))
        for weights, told in [
            ((1, 1, 1), (1, 1)), ((1, 0, 0), (0, 1)), ((1, 1, 0), (1, 2)), ((1, 0, 1), (1, 1)), ((2, 3, 4), (1, 1)),
            ((1, 2, 5), (3, 4)), ((99, 99, 99), (1, 1)), ((50, 50, 0), (1, 2)), ((99, 1, 0), (1, 100)),
            ((0, 0, 99), (0, 1)), ((3, 3, 6), (1, 1)), ((2, 2, 3), (1, 1)), ((1, 1, 4), (2, 3)),
        ]:
            with self.subTest(weights=weights):
                self.assertEqual(bound(book, weights), told)

    def test_a_bound_of_0_is_0_of_1(self):
        self.assertEqual(bound((1, ((),)), (7,)), (0, 1))
        self.assertEqual(bound((3, ((), (), ())), (0, 40, 60)), (0, 1))
        self.assertEqual(bound((3, ((2, 0, 1),)), (99,)), (0, 1))
        self.assertEqual(bound((1, ((0,) * 6,) * 5), (9, 0, 9, 0, 99)), (0, 1))

    def test_a_letter_that_no_word_has_is_no_help(self):
        for weights in product((0, 1, 2), repeat=2):
            if any(weights):
                self.assertEqual(bound((2, ((0, 1), (1, 1))), weights), bound((3, ((0, 1), (1, 1))), weights))

    def test_every_weight_from_0_to_99_may_be(self):
        for weight in range(1, 100):
            self.assertEqual(bound((2, ((0, 0), (1, 1))), (weight, weight)), (1, 1))
            self.assertEqual(bound((2, ((0, 0), (1, 1))), (weight, 0)), (0, 1))

    def test_what_is_no_even_book_is_refused(self):
        hold_refusals_of_books(self, lambda thing: bound(thing, (1, 1)))

    def test_what_is_no_weights_is_refused(self):
        book = (2, ((0, 1), (1, 1), (0, 0)))
        for number, thing in enumerate(NO_WEIGHTS):
            with self.subTest(number=number):
                self.assertRaises(NoWeights, bound, book, thing)
        self.assertRaises(NoWeights, bound, (2, ((0, 1),)), (0,))
        self.assertRaises(NoWeights, bound, (2, ((0, 1),)), ())
        self.assertRaises(NoWeights, bound, (2, ((),)), (100,))

    def test_the_refusal_named_first_is_told(self):
        self.assertRaises(NoBook, bound, None, None)
        self.assertRaises(NoBook, bound, (4, ((0, 1), (1,))), ())
        self.assertRaises(Uneven, bound, UNEVEN, (0, 0))
        self.assertRaises(Uneven, bound, UNEVEN, Anything())


class FarPairTest(unittest.TestCase):
    def test_the_first_of_those_farthest_apart(self):
        for book in even_books():
            words = book[1]
            pairs = [(one, other, far(words[one], words[other])) for one, other in combinations(range(len(words)), 2)]
            if pairs:
                most = max(away for _, _, away in pairs)
                self.assertEqual(far_pair(book), [pair for pair in pairs if pair[2] == most][0], book)
            else:
                self.assertIsNone(far_pair(book))

    def test_written_answers(self):
        for book, told in [
            ((2, ((0, 0), (0, 1), (1, 1))), (0, 2, 2)),
            ((2, ((0, 0), (1, 1), (0, 0))), (0, 1, 2)),
            ((3, ((0, 1, 2), (0, 1, 0), (2, 1, 0), (0, 2, 1))), (2, 3, 3)),
            ((2, ((0, 1), (0, 1), (0, 0), (1, 1))), (2, 3, 2)),
            ((3, ((0, 0, 0), (1, 1, 0), (0, 1, 1), (2, 2, 2), (2, 2, 0))), (0, 3, 3)),
        ]:
            with self.subTest(book=book):
                self.assertEqual(far_pair(book), told)

    def test_one_word_has_no_pair(self):
        for book in [(1, ((),)), (2, ((0, 1),)), (3, ((0, 1, 2, 0, 1, 2),))]:
            self.assertIsNone(far_pair(book))

    def test_words_that_are_alike_are_a_pair(self):
        self.assertEqual(far_pair((2, ((0, 1), (0, 1)))), (0, 1, 0))
        self.assertEqual(far_pair((3, ((),) * 5)), (0, 1, 0))
        self.assertEqual(far_pair((1, ((0,) * 6,) * 5)), (0, 1, 0))

    def test_half_of_it_bounds_the_least_reach(self):
        for book in large_even_books():
            pair = far_pair(book)
            if pair is not None:
                self.assertGreaterEqual(2 * nearest(book)[0], pair[2])

    def test_what_is_no_even_book_is_refused(self):
        hold_refusals_of_books(self, far_pair)


if __name__ == "__main__":
    unittest.main()
