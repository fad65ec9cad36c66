"""What several files of tests need: books to go through, and things that are none."""

from functools import lru_cache
from itertools import product

from nearall.errors import NoBook, Uneven


def all_words(letters, length):
    return list(product(range(letters), repeat=length))


def far(one, other):
    return sum(a != b for a, b in zip(one, other, strict=True))


def words_up_to(letters, longest):
    """All words of at most so many letters, in order: by their lengths, those of one length as tuples."""
    return [word for length in range(longest + 1) for word in all_words(letters, length)]


@lru_cache(maxsize=None)
def steps_between(one, other):
    """How many letters have at least to be turned, put in or left out to make the one word the other."""
    if not one or not other:
        return len(one) + len(other)
    if one[-1] == other[-1]:
        return steps_between(one[:-1], other[:-1])
    return 1 + min(
        steps_between(one[:-1], other[:-1]), steps_between(one[:-1], other), steps_between(one, other[:-1]))


def small_even_books():
    """Every even book of a few small shapes."""
    shapes = [(1, 0, 1), (3, 0, 2), (1, 3, 2), (2, 1, 3), (2, 3, 1), (2, 3, 2), (2, 2, 4), (3, 2, 1), (3, 2, 3)]
    for letters, length, how_many in shapes:
        for words in product(all_words(letters, length), repeat=how_many):
            yield (letters, words)


def large_even_books():
    """Some books of up to five words of up to six letters, with no pattern that a place could hide in."""
    seed = 7
    for letters in (1, 2, 3):
        for length in (0, 1, 4, 5, 6):
            for how_many in (1, 2, 3, 5):
                words = []
                for _ in range(how_many):
                    word = []
                    for _ in range(length):
                        seed = (seed * 1103515245 + 12345) % 2147483648
                        word.append((seed >> 16) % letters)
                    words.append(tuple(word))
                yield (letters, tuple(words))


def even_books():
    yield from small_even_books()
    yield from large_even_books()


def gone_through(book):
    """Every word of the book's length, in order, with its reach and its sum."""
    letters, words = book
    told = []
    for word in all_words(letters, len(words[0])):
        away = [far(word, other) for other in words]
        told.append((word, max(away), sum(away)))
    return told


def some_weights(how_many):
    """Tuples of weights: all of few different weights, the greatest ones, and some with no pattern."""
    yield from (weights for weights in product((0, 1), repeat=how_many) if any(weights))
    yield (99,) * how_many
    yield tuple(6 * number + 4 for number in range(how_many))
    yield (2, 7, 0, 99, 30)[:how_many]
    yield (98, 0, 49, 7, 0)[:how_many]


def least_weighed(book, weights, taken):
    """The least, of all words with the letters taken, that a word is apart from the book's words by their weights."""
    letters, words = book
    return min(
        sum(weight * far(word, other) for weight, other in zip(weights, words, strict=True))
        for word in all_words(letters, len(words[0]))
        if all(word[place] == letter for place, letter in taken.items())
    )


class Anything:
    """A thing that can be neither compared, measured, walked nor shown."""

    def refuse(self, *others):
        raise RuntimeError("not to be asked")

    __eq__ = __lt__ = __le__ = __gt__ = __ge__ = refuse
    __len__ = __iter__ = __getitem__ = __bool__ = __repr__ = __str__ = __index__ = refuse
    __hash__ = None


UNEVEN = (2, ((0, 1), (1,)))
UNEVEN_BOOKS = [UNEVEN, (1, ((), (0,))), (3, ((0, 1), (2, 2), (0, 1, 2)))]

OTHER_KINDS = [
    None, True, False, 0, 1, -1, 1.0, 2.5, "", "2/01", b"2", [], {}, set(), frozenset(), (), object(), Anything(),
    int, len, range(2), iter([]),
]

NO_BOOKS = OTHER_KINDS + [
    # lists in a tuple's stead
    [2, ((0, 1),)], (2, [(0, 1)]), (2, ([0, 1],)), (2, ((0, 1), [0, 1])),
    # other kinds in a tuple's stead
    (2, "01"), (2, ("01",)), (2, {(0, 1): True}), (2, None), (2, 1), (2, (1,)), (2, (None,)), (2, Anything()),
    (2, (Anything(),)), (2, range(2)), (2, (range(2),)), {2: ((0, 1),)},
    # too few or too many parts
    (2,), (2, ((0,),), ()), ((0,), 2), ((0, 1), (1, 0)),
    # letters
    (0, ((),)), (0, ((0,),)), (4, ((0, 1),)), (4, ((3,),)), (-1, ((),)), (True, ((0,),)), (False, ((),)),
    (2.0, ((0, 1),)), ("2", ((0, 1),)), (None, ((0, 1),)), ((2,), ((0, 1),)), (Anything(), ((0, 1),)),
    (10 ** 5000, ((0, 1),)),
    # how many words
    (2, ()), (2, ((),) * 6), (2, ((0, 1),) * 6),
    # how long a word is
    (2, ((0,) * 7,)), (2, ((0,), (1,) * 7)),
    # a letter
    (1, ((1,),)), (2, ((0, 2),)), (3, ((3,),)), (3, ((0, 1), (0, 3))), (2, ((-1,),)), (2, ((True,),)),
    (2, ((0, False),)), (2, ((0.0,),)), (2, (("0",),)), (2, ((None,),)), (2, (((0,),),)), (2, ((Anything(),),)),
    (2, ((10 ** 5000,),)),
]

# Books that are as great or as small as can be, and books in between.
BOOKS = [
    (1, ((),)), (3, ((),)), (1, ((0,),)), (3, ((2,),)), (2, ((0, 1),)), (1, ((0,) * 6,) * 5),
    (3, ((0, 1, 2, 2, 1, 0),) * 5), (3, ((0, 1, 2), (2, 2, 2), (0, 0, 1))), (2, ((), (), (), (), ())),
    UNEVEN, (3, ((), (0,), (0, 1), (2, 1, 0), (0, 1, 2, 0, 1, 2))), (2, ((0, 0, 0, 1, 0, 0), ())),
]

# What is no word of whatever book.
NO_WORDS = [thing for thing in OTHER_KINDS if not isinstance(thing, tuple)] + [
    [0, 1], "01", b"01", range(2), {0: 1}, (3,), (0, 3), (-1,), (0, -1), (True,), (0, False), (0.0,), (0, 1.5), ("0",),
    (None,), ((0,),), (0, [1]), (Anything(),), (0, Anything()), (10 ** 5000,), (-10 ** 5000,),
]

NO_NUMBERS = [-1, -7, True, False, "0", "", 0.0, 1.5, None, [], (), {}, (0,), b"0", object(), Anything()]

# What is no tuple of weights for three words.
NO_WEIGHTS = OTHER_KINDS + [
    (0, 0, 0), (1, 1), (1,), (1, 1, 1, 1), [1, 1, 1], {1: 1, 2: 1, 3: 1}, "111", b"111", range(3), (1, 1, 100),
    (100, 0, 0), (1, -1, 1), (0, 0, -1), (True, 1, 1), (1, 1, False), (1.0, 1, 1), (1, 2.5, 1), ("1", 1, 1),
    (1, None, 1), ((1,), 1, 1), (1, 1, Anything()), (1, 1, [1]), (10 ** 5000, 1, 1),
]


def hold_refusals(test, refusal, ask, things):
    """Hold that each of the things is refused in this way; not all of them can be shown."""
    for number, thing in enumerate(things):
        with test.subTest(ask=ask, number=number):
            test.assertRaises(refusal, ask, thing)


def hold_refusals_of_books(test, ask):
    """Hold that what is no book, and a book that is not even, is refused, and the first before the second."""
    hold_refusals(test, NoBook, ask, NO_BOOKS)
    for book in UNEVEN_BOOKS:
        with test.subTest(ask=ask, book=book):
            test.assertRaises(Uneven, ask, book)
    test.assertRaises(NoBook, ask, (2, ((0, 2), (1,))))
    test.assertRaises(NoBook, ask, (4, ((0, 1), (1,))))
