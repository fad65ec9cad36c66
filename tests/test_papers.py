import unittest

from nearall.errors import NoBook, NoNumber, Uneven
from nearall.nearest import nearest
from nearall.papers import paper, shows

from support import (
    NO_NUMBERS, NO_WEIGHTS, OTHER_KINDS, UNEVEN, Anything, even_books, gone_through, hold_refusals_of_books,
    large_even_books, least_weighed, small_even_books, some_weights,
)

# No weights alone show that no word has a reach below 2: each of the four is a word of the book.
SQUARE = (2, ((0, 0), (0, 1), (1, 0), (1, 1)))
FIRST_TWO = ("weights", (1, 1, 0, 0))
LAST_TWO = ("weights", (0, 0, 1, 1))
PAPER = ("place", 0, (LAST_TWO, FIRST_TWO))

THREE_WORDS = (2, ((0, 0, 0), (0, 1, 1), (1, 0, 1)))


def is_shown(book, number, tree, taken):
    """Whether a tree, of which only the form is known to be as told, shows a number: by a walk through all words."""
    if tree[0] == "weights":
        return least_weighed(book, tree[1], taken) > sum(tree[1]) * (number - 1)
    _, place, trees = tree
    assert place not in taken and len(trees) == book[0]
    return all(is_shown(book, number, part, {**taken, place: letter}) for letter, part in enumerate(trees))


def trees_of(book, depth):
    """Trees that branch at a place or two, with unlike weights at their ends, some that show more than others."""
    ends = [("weights", weights) for weights in some_weights(len(book[1]))]
    length = len(book[1][0])
    yield from ends
    if depth < 1:
        return
    for place in range(length):
        for shift in range(0, len(ends), 3):
            yield ("place", place, tuple(ends[(shift + 5 * letter) % len(ends)] for letter in range(book[0])))
    if depth < 2:
        return
    for first in range(length):
        for second in range(length):
            if first != second:
                under = ("place", second, tuple(ends[(first + 7 * letter) % len(ends)] for letter in range(book[0])))
                yield ("place", first, (under,) * book[0])
                yield ("place", first, (ends[0],) * (book[0] - 1) + (under,))


class PaperTest(unittest.TestCase):
    def test_it_shows_the_least_reach_and_not_one_more(self):
        for book in even_books():
            least = min(reach for _, reach, _ in gone_through(book))
            told = paper(book)
            self.assertTrue(is_shown(book, least, told, {}), book)
            self.assertFalse(is_shown(book, least + 1, told, {}), book)
            for number in range(least + 1):
                self.assertIs(shows(book, number, told), True, (book, number))
            self.assertIs(shows(book, least + 1, told), False, book)
            self.assertIs(shows(book, least + 2, told), False, book)

    def test_books_that_no_weights_alone_are_enough_for(self):
        for book, least in [
            (SQUARE, 2),
            ((3, ((0, 0), (0, 1), (1, 0), (2, 1))), 2),
            ((2, ((0, 0, 0), (0, 0, 1), (0, 1, 0), (0, 1, 1))), 2),
            ((2, ((0, 0, 0, 0), (0, 0, 0, 1), (1, 1, 1, 0), (1, 1, 1, 1))), 3),
        ]:
            with self.subTest(book=book):
                told = paper(book)
                self.assertEqual(told[0], "place")
                self.assertEqual(nearest(book)[0], least)
                self.assertIs(shows(book, least, told), True)
                self.assertIs(shows(book, least + 1, told), False)

    def test_edges(self):
        for book in [
            (1, ((),)), (3, ((), (), ())), (3, ((0, 1, 2, 0, 1, 2),)), (1, ((0,) * 6,) * 5), (2, ((1, 0),) * 3),
        ]:
            with self.subTest(book=book):
                self.assertIs(shows(book, 0, paper(book)), True)
                self.assertIs(shows(book, 1, paper(book)), False)

    def test_what_is_no_even_book_is_refused(self):
        hold_refusals_of_books(self, paper)


class ShowsTest(unittest.TestCase):
    def test_trees_against_a_walk_through_all_words(self):
        told = {True: 0, False: 0}
        for book in list(small_even_books())[::7] + [book for book in large_even_books() if len(book[1][0]) == 4]:
            for tree in trees_of(book, 2 if len(book[1][0]) < 4 else 1):
                for number in range(4):
                    answer = shows(book, number, tree)
                    self.assertIs(answer, is_shown(book, number, tree, {}), (book, number, tree))
                    told[answer] += 1
        self.assertGreater(min(told.values()), 1000)

    def test_what_is_shown_holds(self):
        for book in list(small_even_books())[::7]:
            least = nearest(book)[0]
            for tree in trees_of(book, 2):
                self.assertIs(shows(book, least + 1, tree), False, (book, tree))

    def test_a_bound_is_rounded_up(self):
        # Half of 3 makes 2, half of 2 no more than 1, and 0 stays 0.
        for words, greatest in [(((0, 0, 0), (1, 1, 1)), 2), (((0, 0), (1, 1)), 1), (((0, 0), (0, 0)), 0)]:
            for number in range(4):
                with self.subTest(words=words, number=number):
                    self.assertIs(shows((2, words), number, ("weights", (1, 1))), number <= greatest)
        self.assertIs(shows((3, ((0,), (1,))), 1, ("weights", (1, 99))), True)
        self.assertIs(shows((3, ((0,), (1,))), 2, ("weights", (1, 99))), False)

    def test_a_letter_taken_counts_as_often_as_words_have_another(self):
        book = (2, ((0, 0), (1, 1)))
        first, second = ("weights", (1, 0)), ("weights", (0, 1))
        self.assertIs(shows(book, 1, ("place", 0, (second, first))), True)
        self.assertIs(shows(book, 1, ("place", 0, (first, second))), False)
        self.assertIs(shows(book, 1, ("place", 0, (second, second))), False)
        self.assertIs(shows(book, 2, ("place", 0, (second, first))), False)

    def test_the_trees_stand_in_the_order_of_the_letters(self):
        self.assertIs(shows(SQUARE, 2, PAPER), True)
        self.assertIs(shows(SQUARE, 3, PAPER), False)
        self.assertIs(shows(SQUARE, 2, ("place", 0, (FIRST_TWO, LAST_TWO))), False)
        self.assertIs(shows(SQUARE, 2, ("place", 0, (LAST_TWO, LAST_TWO))), False)
        self.assertIs(shows(SQUARE, 2, ("place", 0, (FIRST_TWO, FIRST_TWO))), False)
        self.assertIs(shows(SQUARE, 2, ("place", 1, (LAST_TWO, FIRST_TWO))), False)

    def test_all_places_may_be_taken(self):
        ends = [[("weights", tuple(int(word == (1 - a, 1 - b)) for word in SQUARE[1])) for b in (0, 1)] for a in (0, 1)]
        tree = ("place", 1, tuple(("place", 0, tuple(ends[a][b] for a in (0, 1))) for b in (0, 1)))
        self.assertIs(shows(SQUARE, 2, tree), True)
        self.assertIs(shows(SQUARE, 3, tree), False)

    def test_a_book_of_one_letter_has_one_tree_for_each_place(self):
        book = (1, ((0, 0),))
        leaf = ("weights", (5,))
        self.assertIs(shows(book, 0, ("place", 1, (("place", 0, (leaf,)),))), True)
        self.assertIs(shows(book, 1, ("place", 1, (("place", 0, (leaf,)),))), False)
        self.assertIs(shows(book, 0, ("place", 1, (leaf, leaf))), False)

    def test_a_place_is_not_taken_twice(self):
        leaf = ("weights", (1, 1, 1, 1))
        for first in (0, 1):
            under = ("place", first, (leaf, leaf))
            other = ("place", 1 - first, (leaf, leaf))
            self.assertIs(shows(SQUARE, 0, ("place", first, (leaf, under))), False)
            self.assertIs(shows(SQUARE, 0, ("place", first, (under, leaf))), False)
            self.assertIs(shows(SQUARE, 0, ("place", first, (leaf, other))), True)
            self.assertIs(shows(SQUARE, 0, ("place", first, (other, other))), True)

    def test_no_place_is_left_to_be_taken(self):
        self.assertIs(shows((2, ((), ())), 0, ("place", 0, (("weights", (1, 1)),) * 2)), False)
        self.assertIs(shows((2, ((), ())), 0, ("weights", (1, 1))), True)

    def test_a_great_number_is_not_shown(self):
        for number in (7, 100, 10 ** 5000):
            self.assertIs(shows(SQUARE, number, PAPER), False)
            self.assertIs(shows(SQUARE, number, ("weights", (99, 99, 99, 99))), False)


class NoPapersTest(unittest.TestCase):
    """What is no paper shows nothing, not even that no word has a reach below 0."""

    def hold_no_paper(self, thing):
        leaf = ("weights", (1, 1, 1))
        for number in (0, 1, 7):
            self.assertIs(shows(THREE_WORDS, number, thing), False)
            self.assertIs(shows(THREE_WORDS, number, ("place", 1, (leaf, thing))), False)
            self.assertIs(shows(THREE_WORDS, number, ("place", 1, (thing, leaf))), False)

    def test_a_paper_in_their_stead_would_do(self):
        leaf = ("weights", (1, 1, 1))
        for tree in [leaf, ("place", 1, (leaf, leaf)), ("place", 0, (leaf, ("place", 2, (leaf, leaf))))]:
            self.assertIs(shows(THREE_WORDS, 0, tree), True)

    def test_things_of_any_kind(self):
        leaf = ("weights", (1, 1, 1))
        things = OTHER_KINDS + [
            "weights", "place", ["weights", (1, 1, 1)], {"weights": (1, 1, 1)}, ((1, 1, 1), "weights"), (leaf,),
            ("weights",), ("weights", (1, 1, 1), ()), ("weights", 1, 1, 1), ("Weights", (1, 1, 1)), ("", (1, 1, 1)),
            ("weight", (1, 1, 1)), (b"weights", (1, 1, 1)), (None, (1, 1, 1)), (0, (1, 1, 1)), ((), (1, 1, 1)),
            (Anything(), (1, 1, 1)), (Anything(),), ("place",), ("place", 0), ("place", (leaf, leaf)),
            ("place", 0, (leaf, leaf), ()), ("place", 0, leaf, leaf), ("Place", 0, (leaf, leaf)), ("place", (1, 1, 1)),
            ("weights", 0, (leaf, leaf)), ("places", 0, (leaf, leaf)), ["place", 0, (leaf, leaf)],
        ]
        for number, thing in enumerate(things):
            with self.subTest(number=number):
                self.hold_no_paper(thing)

    def test_what_is_no_weights(self):
        for number, thing in enumerate(NO_WEIGHTS):
            with self.subTest(number=number):
                self.hold_no_paper(("weights", thing))

    def test_what_is_no_place(self):
        leaf = ("weights", (1, 1, 1))
        places = [
            -1, 3, 6, 7, 10 ** 5000, True, False, 0.0, 2.0, "0", None, (), (0,), [0], {}, b"0", object(), Anything(),
        ]
        for number, place in enumerate(places):
            with self.subTest(number=number):
                self.hold_no_paper(("place", place, (leaf, leaf)))

    def test_what_is_no_tuple_of_a_tree_for_each_letter(self):
        leaf = ("weights", (1, 1, 1))
        things = OTHER_KINDS + [
            (leaf,), (leaf, leaf, leaf), [leaf, leaf], {0: leaf, 1: leaf}, leaf, iter((leaf, leaf)), (leaf, None),
            (None, leaf), (leaf, [leaf]), (leaf, Anything()), (leaf, ()), (leaf, (leaf, leaf)),
        ]
        for number, trees in enumerate(things):
            with self.subTest(number=number):
                self.hold_no_paper(("place", 0, trees))

    def test_a_tree_that_goes_deeper_than_there_are_places(self):
        tree = ("weights", (1, 1, 1))
        for depth in range(2000):
            tree = ("place", depth % 3, (tree, tree))
        self.hold_no_paper(tree)
        looped = []
        looped.append(("place", 0, looped))
        self.hold_no_paper(looped)


class ShowsRefusalsTest(unittest.TestCase):
    def test_what_is_no_even_book_is_refused(self):
        hold_refusals_of_books(self, lambda thing: shows(thing, 1, ("weights", (1, 1))))

    def test_what_is_no_number_is_refused(self):
        for book in [SQUARE, (1, ((),))]:
            for number, thing in enumerate(NO_NUMBERS):
                with self.subTest(book=book, number=number):
                    self.assertRaises(NoNumber, shows, book, thing, PAPER)

    def test_the_refusal_named_first_is_told_whatever_the_paper_is(self):
        for thing in [None, PAPER, Anything(), ("weights", ())]:
            self.assertRaises(NoBook, shows, None, None, thing)
            self.assertRaises(NoBook, shows, (4, ((0, 1), (1,))), -1, thing)
            self.assertRaises(Uneven, shows, UNEVEN, -1, thing)
            self.assertRaises(Uneven, shows, UNEVEN, Anything(), thing)
            self.assertRaises(NoNumber, shows, SQUARE, -1, thing)


if __name__ == "__main__":
    unittest.main()
