import copy
import unittest
from itertools import permutations, product

from nearall.books import checked
from nearall.errors import NoBook
from nearall.kinds import book_of, kinds
from nearall.nearest import count_within, nearest
from nearall.sums import least_sum

from support import OTHER_KINDS, Anything, even_books, hold_refusals_of_books, large_even_books


def numbered_anew(column):
    met = []
    for letter in column:
        if letter not in met:
            met.append(letter)
    return tuple(met.index(letter) for letter in column)


def places_of(book):
    return list(zip(*book[1]))


class KindsTest(unittest.TestCase):
    def test_every_place_is_told_by_its_kind(self):
        for book in even_books():
            told = kinds(book)
            columns = [numbered_anew(column) for column in places_of(book)]
            self.assertEqual(told, [(kind, columns.count(kind)) for kind in sorted(set(columns))], book)

    def test_written_answers(self):
        for book, told in [
            ((2, ((0, 0, 1), (1, 0, 0))), [((0, 0), 1), ((0, 1), 2)]),
            ((3, ((2, 2, 2, 0), (2, 1, 0, 1), (0, 2, 1, 0))), [((0, 0, 1), 1), ((0, 1, 0), 2), ((0, 1, 2), 1)]),
            ((3, ((0, 1, 2, 0, 1, 2),)), [((0,), 6)]),
            ((3, ((2,), (1,), (1,), (0,), (2,))), [((0, 1, 1, 2, 0), 1)]),
            ((1, ((0, 0, 0),) * 4), [((0, 0, 0, 0), 3)]),
        ]:
            with self.subTest(book=book):
                self.assertEqual(kinds(book), told)

    def test_a_book_of_length_0_has_no_places(self):
        self.assertEqual(kinds((1, ((),))), [])
        self.assertEqual(kinds((3, ((),) * 5)), [])

    def test_the_list_is_a_new_one_each_time(self):
        book = (2, ((0, 0, 1), (1, 0, 0)))
        first = kinds(book)
        first.clear()
        self.assertEqual(kinds(book), [((0, 0), 1), ((0, 1), 2)])
        self.assertIsNot(kinds(book), kinds(book))
        self.assertIs(type(kinds(book)), list)

    def test_neither_the_order_of_places_nor_that_of_letters_counts(self):
        letters, words = book = (3, ((0, 1, 2, 2), (0, 2, 2, 1), (1, 1, 0, 2)))
        for order in permutations(range(4)):
            other = (letters, tuple(tuple(word[place] for place in order) for word in words))
            self.assertEqual(kinds(other), kinds(book))
        for names in product(permutations(range(3)), repeat=4):
            other = (letters, tuple(tuple(names[place][word[place]] for place in range(4)) for word in words))
            self.assertEqual(kinds(other), kinds(book))

    def test_the_reaches_and_the_least_sum_hang_on_it_alone(self):
        for book in even_books():
            if kinds(book):
                other = book_of(book[0], kinds(book))
                self.assertEqual(nearest(other)[0], nearest(book)[0], book)
                self.assertEqual(least_sum(other)[0], least_sum(book)[0], book)
        for book in large_even_books():
            if kinds(book):
                other = book_of(book[0], kinds(book))
                for most in range(len(book[1][0]) + 1):
                    self.assertEqual(count_within(other, most), count_within(book, most), (book, most))

    def test_what_is_no_even_book_is_refused(self):
        hold_refusals_of_books(self, kinds)


class BookOfTest(unittest.TestCase):
    def test_the_book_of_a_list_has_this_list(self):
        for book in even_books():
            some = kinds(book)
            if some:
                told = book_of(book[0], some)
                self.assertEqual(checked(told), told)
                self.assertEqual(kinds(told), some)
                self.assertEqual(told[0], book[0])
                self.assertEqual(len(told[1]), len(book[1]))

    def test_its_places_stand_by_kinds_with_their_numbers_as_letters(self):
        for book in even_books():
            some = kinds(book)
            if some:
                self.assertEqual(
                    places_of(book_of(book[0], some)), [kind for kind, how_many in some for _ in range(how_many)])

    def test_written_answers(self):
        for letters, some, told in [
            (2, [((0, 0), 1), ((0, 1), 2)], (2, ((0, 0, 0), (0, 1, 1)))),
            (3, [((0, 0), 1), ((0, 1), 2)], (3, ((0, 0, 0), (0, 1, 1)))),
            (3, [((0, 1, 0), 1), ((0, 1, 2), 1)], (3, ((0, 0), (1, 1), (0, 2)))),
            (1, [((0,), 1)], (1, ((0,),))),
            (3, [((0,), 6)], (3, ((0,) * 6,))),
            (1, [((0,) * 5, 6)], (1, ((0,) * 6,) * 5)),
            (
                3, [((0, 1, 2, 2, 1), 5), ((0, 1, 2, 2, 2), 1)],
                (3, ((0,) * 6, (1,) * 6, (2,) * 6, (2,) * 6, (1,) * 5 + (2,))),
            ),
        ]:
            with self.subTest(letters=letters, some=some):
                self.assertEqual(book_of(letters, some), told)

    def test_the_list_is_neither_changed_nor_kept(self):
        some = [((0, 0), 1), ((0, 1), 2)]
        before = copy.deepcopy(some)
        told = book_of(2, some)
        self.assertEqual(some, before)
        some.clear()
        self.assertEqual(told, (2, ((0, 0, 0), (0, 1, 1))))

    def test_letters_that_are_none_from_1_to_3_are_refused(self):
        for number, letters in enumerate(OTHER_KINDS + [4, -2, 10 ** 5000, 3.0, "1", (1,), [1]]):
            if not (type(letters) is int and letters == 1):
                with self.subTest(number=number):
                    self.assertRaises(NoBook, book_of, letters, [((0, 0), 1)])
                    self.assertRaises(NoBook, book_of, letters, None)

    def test_what_is_no_list_of_kinds_is_refused(self):
        for number, thing in enumerate(NO_LISTS):
            with self.subTest(number=number):
                self.assertRaises(NoBook, book_of, 2, thing)
                self.assertRaises(NoBook, book_of, 3, thing)

    def test_kinds_of_more_letters_than_told_are_refused(self):
        self.assertRaises(NoBook, book_of, 1, [((0, 1), 1)])
        self.assertRaises(NoBook, book_of, 1, [((0, 0), 1), ((0, 1), 1)])
        self.assertRaises(NoBook, book_of, 2, [((0, 1, 2), 1)])
        self.assertRaises(NoBook, book_of, 3, [((0, 1, 2, 3), 1)])
        self.assertEqual(book_of(3, [((0, 1, 2), 1)]), (3, ((0,), (1,), (2,))))


NO_LISTS = OTHER_KINDS + [
    # other kinds in a list's or a tuple's stead
    (((0, 0), 1),), {(0, 0): 1}, [[(0, 0), 1]], [([0, 0], 1)], ["01"], [("00", 1)], [(0, 0)], [(0, 0), (0, 1)], [None],
    [Anything()], [(Anything(), 1)], [((0, 0), Anything())], [((0, Anything()), 1)], [((0, [0]), 1)], [(None, 1)],
    [((0, 0), 1), None], [((0, 0), 1), ((0, 1), None)], [(range(2), 1)],
    # too few or too many parts
    [()], [((0, 0),)], [((0, 0), 1, 1)], [((0, 0), 1), ((0, 1),)],
    # how many places
    [((0, 0), 0)], [((0, 0), -1)], [((0, 0), True)], [((0, 0), 1.0)], [((0, 0), "1")], [((0, 0), 7)],
    [((0, 0), 10 ** 5000)], [((0, 0), 3), ((0, 1), 4)], [((0, 0), 6), ((0, 1), 1)], [((0, 0), 0), ((0, 1), 1)],
    [((0, 0), 7), ((0, 1), -1)],
    # what is no kind
    [((1, 0), 1)], [((1, 1), 1)], [((0, 2), 1)], [((0, 2, 1), 1)], [((0, -1), 1)], [((False, True), 1)],
    [((0, True), 1)], [((0, 1.0), 1)], [((0, "1"), 1)], [((0, None), 1)], [((-1, 0), 1)], [((0, 0, 2), 1)],
    [((0, 10 ** 5000), 1)],
    # how many words
    [((), 1)], [((0,) * 6, 1)], [((), 3), ((0,), 1)],
    # kinds of unlike many words
    [((0,), 1), ((0, 0), 1)], [((0, 0), 1), ((0, 0, 1), 1)], [((0, 0, 1), 1), ((0, 1), 1)],
    # what does not rise
    [((0, 1), 1), ((0, 0), 1)], [((0, 0), 1), ((0, 0), 1)], [((0, 0), 1), ((0, 0), 2)], [((0, 0), 2), ((0, 0), 1)],
    [((0, 0, 0), 1), ((0, 1, 0), 1), ((0, 0, 1), 1)],
]


if __name__ == "__main__":
    unittest.main()
