"""What the document says of the whole program."""

import copy
import inspect
import unittest
from itertools import product

from nearall import books, bounds, errors, gaps, kinds, nearest, others, papers, sums, texts, wide

from support import BOOKS, large_even_books

ASKED = [
    books.checked,
    books.turned_about,
    nearest.nearest,
    nearest.nearest_of_all,
    lambda book: books.reach(book, book[1][-1]),
    lambda book: books.total(book, book[1][-1]),
    lambda book: nearest.count_within(book, 1),
    lambda book: nearest.first_within(book, 1),
    sums.least_sum,
    sums.count_least_sum,
    lambda book: bounds.bound(book, (1, 2, 3, 5, 8)[:len(book[1])]),
    bounds.far_pair,
    papers.paper,
    kinds.kinds,
    lambda book: wide.wide_reach(book, book[1][-1]),
    lambda book: wide.wide_sum(book, book[1][-1]),
    wide.wide_nearest,
    wide.wide_least_sum,
    lambda book: others.with_word(book, (0,)),
    lambda book: others.without(book, 0),
    lambda book: others.joined(book, book),
    others.growing,
    texts.shown,
    lambda book: texts.read(texts.shown(book)),
]

ASKED_OF_WORDS = [
    gaps.steps,
    gaps.way,
    lambda one, other: gaps.done(one, gaps.way(one, other)),
]

SOME_WORDS = [(), (0,), (2, 1), (0, 1, 2), (1, 2, 0, 0), (0, 1) * 3, (2, 0, 1) * 3]

INTERFACE = {
    books: {"checked": ["book"], "turned_about": ["book"], "reach": ["book", "word"], "total": ["book", "word"]},
    nearest: {
        "nearest": ["book"], "count_within": ["book", "most"], "first_within": ["book", "most"],
        "nearest_of_all": ["book"],
    },
    sums: {"least_sum": ["book"], "count_least_sum": ["book"]},
    bounds: {"bound": ["book", "weights"], "far_pair": ["book"]},
    papers: {"paper": ["book"], "shows": ["book", "number", "thing"]},
    kinds: {"kinds": ["book"], "book_of": ["letters", "some"]},
    gaps: {"done": ["word", "deeds"], "steps": ["one", "other"], "way": ["one", "other"]},
    wide: {
        "wide_reach": ["book", "word"], "wide_sum": ["book", "word"], "wide_nearest": ["book"],
        "wide_least_sum": ["book"],
    },
    others: {
        "with_word": ["book", "word"], "without": ["book", "number"], "joined": ["one", "other"], "growing": ["book"],
    },
    texts: {"shown": ["book"], "read": ["text"]},
}


def shown_or_not(book):
    return papers.shows(book, 1, ("weights", (1,) * len(book[1])))


def answer(ask, book):
    try:
        return ask(book)
    except errors.NearError as refusal:
        return type(refusal)


def made_anew(book):
    return (book[0], tuple(tuple(list(word)) for word in list(book[1])))


def is_plain(thing):
    """Whether a thing is made of whole numbers, texts, tuples, lists and None; True and False are no numbers."""
    if type(thing) in (tuple, list):
        return all(is_plain(part) for part in thing)
    return thing is None or type(thing) in (int, str)


class WholeTest(unittest.TestCase):
    def setUp(self):
        self.books = BOOKS + list(large_even_books())

    def test_each_function_of_the_interface_is_there_with_its_arguments(self):
        for module, functions in INTERFACE.items():
            for name, arguments in functions.items():
                with self.subTest(module=module.__name__, name=name):
                    self.assertEqual(list(inspect.signature(getattr(module, name)).parameters), arguments)

    def test_equal_things_give_equal_answers_whatever_was_asked_between(self):
        for ask in ASKED + [shown_or_not]:
            before = [answer(ask, book) for book in self.books]
            after = [answer(ask, made_anew(book)) for book in reversed(self.books)]
            self.assertEqual(before, after[::-1])
        pairs = list(product(SOME_WORDS, repeat=2))
        for ask in ASKED_OF_WORDS:
            before = [ask(one, other) for one, other in pairs]
            after = [ask(tuple(list(one)), tuple(list(other))) for one, other in reversed(pairs)]
            self.assertEqual(before, after[::-1])

    def test_answers_are_plain_things(self):
        for ask in ASKED:
            for book in self.books:
                told = answer(ask, book)
                if told not in (errors.Uneven, errors.TooBig):
                    self.assertTrue(is_plain(told), (ask, book, told))
        for ask in ASKED_OF_WORDS:
            for one, other in product(SOME_WORDS, repeat=2):
                self.assertTrue(is_plain(ask(one, other)), (ask, one, other))

    def test_nothing_handed_in_is_changed(self):
        lists = [[2, [[0, 1], [1, 0]]], (2, [(0, 1), (1, 0)]), (2, ([0, 1], [1, 0]))]
        for ask in ASKED + [shown_or_not]:
            for thing in lists:
                before = copy.deepcopy(thing)
                self.assertEqual(answer(ask, thing), errors.NoBook)
                self.assertEqual(thing, before)
        word = [0, 1]
        for ask in (books.reach, books.total):
            self.assertRaises(errors.NoWord, ask, (2, ((0, 1),)), word)
            self.assertEqual(word, [0, 1])
        for tree in (["weights", [1]], ("weights", [1]), ("place", 0, [("weights", (1,)), ["weights", (1,)]])):
            before = copy.deepcopy(tree)
            self.assertIs(papers.shows((2, ((0, 1),)), 0, tree), False)
            self.assertEqual(tree, before)
        weights = [1]
        self.assertRaises(errors.NoWeights, bounds.bound, (2, ((0, 1),)), weights)
        self.assertEqual(weights, [1])
        some = [((0, 1), 1), [(0, 0), 1]]
        self.assertRaises(errors.NoBook, kinds.book_of, 2, some)
        self.assertEqual(some, [((0, 1), 1), [(0, 0), 1]])
        for ask in (wide.wide_reach, wide.wide_sum, others.with_word):
            self.assertRaises(errors.NoWord, ask, (2, ((0, 1),)), word)
        for ask in ASKED_OF_WORDS:
            self.assertRaises(errors.NoWord, ask, word, (0, 1))
            self.assertRaises(errors.NoWord, ask, (0, 1), word)
        self.assertEqual(word, [0, 1])
        for deeds in ([("keep",), ["out"]], [("keep",), ("put", 1)], [("put", 1), ("turn", [0])]):
            before = copy.deepcopy(deeds)
            self.assertRaises(errors.NoDeeds, gaps.done, (0, 1), deeds)
            self.assertEqual(deeds, before)

    def test_lists_that_are_told_are_new_ones(self):
        for ask in (kinds.kinds, others.growing, lambda book: gaps.way(book[1][0], book[1][-1])):
            for book in large_even_books():
                one = ask(book)
                one.append(None)
                self.assertNotEqual(ask(book), one)

    def test_true_and_false_are_no_numbers(self):
        even = (2, ((0, 1), (1, 1)))
        for flag in (True, False):
            self.assertRaises(errors.NoBook, books.checked, (flag, ((0,),)))
            self.assertRaises(errors.NoBook, books.checked, (2, ((flag,),)))
            self.assertRaises(errors.NoWord, books.reach, even, (0, flag))
            self.assertRaises(errors.NoWord, books.total, even, (0, flag))
            self.assertRaises(errors.NoNumber, nearest.count_within, even, flag)
            self.assertRaises(errors.NoNumber, nearest.first_within, even, flag)
            self.assertRaises(errors.NoNumber, papers.shows, even, flag, ("weights", (1, 1)))
            self.assertRaises(errors.NoWeights, bounds.bound, even, (1, flag))
            self.assertRaises(errors.NoBook, kinds.book_of, flag, [((0,), 1)])
            self.assertRaises(errors.NoBook, kinds.book_of, 2, [((0,), flag)])
            self.assertRaises(errors.NoBook, kinds.book_of, 2, [((flag,), 1)])
            self.assertRaises(errors.NoBook, kinds.book_of, 2, [((0, flag), 1)])
            for ask in (wide.wide_reach, wide.wide_sum, others.with_word):
                self.assertRaises(errors.NoWord, ask, even, (0, flag))
            self.assertRaises(errors.NoNumber, others.without, even, flag)
            self.assertRaises(errors.NoWord, gaps.done, (flag,), [("keep",)])
            for name in ("turn", "put"):
                self.assertRaises(errors.NoDeeds, gaps.done, (0,), [("keep",), (name, flag)])
            self.assertRaises(errors.NoDeeds, gaps.done, (0,), [("turn", flag)])
            for ask in (gaps.steps, gaps.way):
                self.assertRaises(errors.NoWord, ask, (flag,), (1,))
                self.assertRaises(errors.NoWord, ask, (1,), (flag,))
            self.assertIs(papers.shows(even, 0, ("weights", (1, flag))), False)
            self.assertIs(papers.shows(even, 0, ("place", flag, (("weights", (1, 1)),) * 2)), False)


if __name__ == "__main__":
    unittest.main()
