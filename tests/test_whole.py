"""What the document says of the whole program."""

import copy
import unittest

from nearall import books, bounds, errors, kinds, nearest, papers, sums

from support import BOOKS, large_even_books

ASKED = [
    books.checked,
    books.turned_about,
    nearest.nearest,
    nearest.nearest_of_all,
    lambda book: books.reach(book, book[1][-1]),
    lambda book: books.total(book, book[1][-1]),
    lambda book: nearest.count_within(book, 1),
    lambda book: nearest.first_within(book, 1),
    sums.least_sum,
    sums.count_least_sum,
    lambda book: bounds.bound(book, (1, 2, 3, 5, 8)[:len(book[1])]),
    bounds.far_pair,
    papers.paper,
    kinds.kinds,
]


def shown_or_not(book):
    return papers.shows(book, 1, ("weights", (1,) * len(book[1])))


def answer(ask, book):
    try:
        return ask(book)
    except errors.NearError as refusal:
        return type(refusal)


def made_anew(book):
    return (book[0], tuple(tuple(list(word)) for word in list(book[1])))


def is_plain(thing):
    """Whether a thing is made of whole numbers, texts, tuples, lists and None; True and False are no numbers."""
    if type(thing) in (tuple, list):
        return all(is_plain(part) for part in thing)
    return thing is None or type(thing) in (int, str)


class WholeTest(unittest.TestCase):
    def setUp(self):
        self.books = BOOKS + list(large_even_books())

    def test_equal_things_give_equal_answers_whatever_was_asked_between(self):
        for ask in ASKED + [shown_or_not]:
            before = [answer(ask, book) for book in self.books]
            after = [answer(ask, made_anew(book)) for book in reversed(self.books)]
            self.assertEqual(before, after[::-1])

    def test_answers_are_plain_things(self):
        for ask in ASKED:
            for book in self.books:
                told = answer(ask, book)
                if told is not errors.Uneven:
                    self.assertTrue(is_plain(told), (ask, book, told))

    def test_nothing_handed_in_is_changed(self):
        lists = [[2, [[0, 1], [1, 0]]], (2, [(0, 1), (1, 0)]), (2, ([0, 1], [1, 0]))]
        for ask in ASKED + [shown_or_not]:
            for thing in lists:
                before = copy.deepcopy(thing)
                self.assertEqual(answer(ask, thing), errors.NoBook)
                self.assertEqual(thing, before)
        word = [0, 1]
        for ask in (books.reach, books.total):
            self.assertRaises(errors.NoWord, ask, (2, ((0, 1),)), word)
            self.assertEqual(word, [0, 1])
        for tree in (["weights", [1]], ("weights", [1]), ("place", 0, [("weights", (1,)), ["weights", (1,)]])):
            before = copy.deepcopy(tree)
            self.assertIs(papers.shows((2, ((0, 1),)), 0, tree), False)
            self.assertEqual(tree, before)
        weights = [1]
        self.assertRaises(errors.NoWeights, bounds.bound, (2, ((0, 1),)), weights)
        self.assertEqual(weights, [1])
        some = [((0, 1), 1), [(0, 0), 1]]
        self.assertRaises(errors.NoBook, kinds.book_of, 2, some)
        self.assertEqual(some, [((0, 1), 1), [(0, 0), 1]])

    def test_lists_that_are_told_are_new_ones(self):
        for book in large_even_books():
            one = kinds.kinds(book)
            one.append(None)
            self.assertNotEqual(kinds.kinds(book), one)

    def test_true_and_false_are_no_numbers(self):
        even = (2, ((0, 1), (1, 1)))
        for flag in (True, False):
            self.assertRaises(errors.NoBook, books.checked, (flag, ((0,),)))
            self.assertRaises(errors.NoBook, books.checked, (2, ((flag,),)))
            self.assertRaises(errors.NoWord, books.reach, even, (0, flag))
            self.assertRaises(errors.NoWord, books.total, even, (0, flag))
            self.assertRaises(errors.NoNumber, nearest.count_within, even, flag)
            self.assertRaises(errors.NoNumber, nearest.first_within, even, flag)
            self.assertRaises(errors.NoNumber, papers.shows, even, flag, ("weights", (1, 1)))
            self.assertRaises(errors.NoWeights, bounds.bound, even, (1, flag))
            self.assertRaises(errors.NoBook, kinds.book_of, flag, [((0,), 1)])
            self.assertRaises(errors.NoBook, kinds.book_of, 2, [((0,), flag)])
            self.assertRaises(errors.NoBook, kinds.book_of, 2, [((flag,), 1)])
            self.assertRaises(errors.NoBook, kinds.book_of, 2, [((0, flag), 1)])
            self.assertIs(papers.shows(even, 0, ("weights", (1, flag))), False)
            self.assertIs(papers.shows(even, 0, ("place", flag, (("weights", (1, 1)),) * 2)), False)


if __name__ == "__main__":
    unittest.main()
