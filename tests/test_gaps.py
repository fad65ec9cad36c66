import copy
import unittest
from collections import deque
from itertools import product

from nearall.errors import NoDeeds, NoWord
from nearall.gaps import done, steps, way

from support import NO_WORDS, OTHER_KINDS, Anything, hold_refusals, steps_between, words_up_to

KEEP = ("keep",)
OUT = ("out",)
TURNS = [("turn", letter) for letter in range(3)]
PUTS = [("put", letter) for letter in range(3)]
DEEDS = [KEEP, OUT] + TURNS + PUTS

TOO_LONG = [(0,) * 10, (0, 1, 2, 0, 1, 2, 0, 1, 2, 0), (2,) * 50]

LONG_WORDS = [
    (), (0,) * 9, (2,) * 9, (0, 1, 2) * 3, (1, 2, 0) * 3, (2, 1, 0) * 3, (0, 0, 1, 1, 2, 2, 0, 0, 1), (0, 1) * 4,
    (1, 0) * 4, (1, 1, 2, 0, 0, 2, 1), (2, 0, 2, 0, 2), (0, 1, 1, 0, 2, 2, 1, 0, 2),
]


def made(word, deeds):
    """The word that the deeds make, or None where they go on too often or not often enough."""
    left = list(word)
    out = ()
    for deed in deeds:
        if deed[0] != "put":
            if not left:
                return None
            letter = left.pop(0)
        if deed[0] == "keep":
            out += (letter,)
        elif deed[0] != "out":
            out += (deed[1],)
    return None if left else out


def steps_by_deeds(word, longest):
    """How many deeds but keeps lead at least from a word to each of at most so many letters, by trying all deeds."""
    fewest = {}
    states = deque([(0, (), 0)])
    met = set()
    while states:
        gone, out, count = states.popleft()
        if (gone, out) in met:
            continue
        met.add((gone, out))
        if gone == len(word):
            fewest[out] = count
        if gone < len(word):
            states.append((gone + 1, out, count + 1))
            if len(out) < longest:
                states.extend((gone + 1, out + (letter,), count + 1) for letter in range(3))
                states.appendleft((gone + 1, out + (word[gone],), count))
        if len(out) < longest:
            states.extend((gone, out + (letter,), count + 1) for letter in range(3))
    return fewest


def costly(deeds):
    return len([deed for deed in deeds if deed != KEEP])


class DoneTest(unittest.TestCase):
    def test_written_answers(self):
        for word, deeds, told in [
            ((0, 1, 2), [KEEP, KEEP, KEEP], (0, 1, 2)),
            ((0, 1, 2), [KEEP, ("turn", 0), KEEP], (0, 0, 2)),
            ((0, 1, 2), [OUT, KEEP, OUT], (1,)),
            ((0, 1), [("put", 2), KEEP, ("put", 0), KEEP, ("put", 1)], (2, 0, 0, 1, 1)),
            ((0, 1), [("turn", 0), ("turn", 1)], (0, 1)),
            ((1, 2), [OUT, ("put", 1), ("turn", 0)], (1, 0)),
            ((), [], ()),
            ((), [("put", 2), ("put", 0)], (2, 0)),
            ((2,), [OUT], ()),
            ((0,) * 9, [OUT] * 9, ()),
            ((0, 1, 2) * 3, [KEEP] * 9, (0, 1, 2) * 3),
        ]:
            with self.subTest(word=word, deeds=deeds):
                self.assertEqual(done(word, deeds), told)

    def test_all_short_lists_of_deeds(self):
        for word in words_up_to(3, 2) + [(0, 1, 2)]:
            for how_many in range(4):
                for deeds in product(DEEDS, repeat=how_many):
                    told = made(word, deeds)
                    if told is None:
                        self.assertRaises(NoDeeds, done, word, list(deeds))
                    else:
                        self.assertEqual(done(word, list(deeds)), told, (word, deeds))

    def test_the_word_made_may_be_longer_than_those_handed_in(self):
        self.assertEqual(done((0,) * 9, [KEEP, ("put", 1)] * 9), (0, 1) * 9)
        self.assertEqual(done((), [("put", 2)] * 1000), (2,) * 1000)

    def test_the_list_is_neither_changed_nor_kept(self):
        deeds = [KEEP, ("put", 1), OUT]
        told = done((0, 2), deeds)
        self.assertEqual(deeds, [KEEP, ("put", 1), OUT])
        deeds.clear()
        self.assertEqual(told, (0, 1))

    def test_going_on_where_no_letter_is_left_is_refused(self):
        for deed in [KEEP, OUT] + TURNS:
            with self.subTest(deed=deed):
                self.assertRaises(NoDeeds, done, (), [deed])
                self.assertRaises(NoDeeds, done, (0,), [KEEP, deed])
                self.assertRaises(NoDeeds, done, (0,), [("put", 1), OUT, ("put", 1), deed])
                self.assertRaises(NoDeeds, done, (0, 1), [KEEP, ("turn", 1), deed, ("put", 0)])

    def test_leaving_a_letter_at_the_end_is_refused(self):
        self.assertRaises(NoDeeds, done, (0,), [])
        self.assertRaises(NoDeeds, done, (0, 1), [KEEP])
        self.assertRaises(NoDeeds, done, (0, 1), [("put", 0), ("put", 1)])
        self.assertRaises(NoDeeds, done, (0, 1), [("put", 0), OUT, ("put", 1)])
        self.assertRaises(NoDeeds, done, (0,) * 9, [KEEP] * 8)

    def test_what_is_no_list_is_refused(self):
        no_lists = [thing for thing in OTHER_KINDS if type(thing) is not list]
        no_lists += [(KEEP,), KEEP, "keep", {KEEP: True}, {KEEP}, iter([KEEP]), ("keep", "keep")]
        hold_refusals(self, NoDeeds, lambda thing: done((0,), thing), no_lists)
        hold_refusals(self, NoDeeds, lambda thing: done((), thing), no_lists)

    def test_what_is_no_deed_is_refused(self):
        # Each stands alone for a word of one letter, and behind deeds that go through the word.
        hold_refusals(self, NoDeeds, lambda thing: done((0,), [thing]), NO_DEEDS)
        hold_refusals(self, NoDeeds, lambda thing: done((0,), [KEEP, thing]), NO_DEEDS)
        hold_refusals(self, NoDeeds, lambda thing: done((0,), [thing, KEEP]), NO_DEEDS)
        hold_refusals(self, NoDeeds, lambda thing: done((), [thing]), NO_DEEDS)

    def test_what_is_no_word_is_refused_before_what_are_no_deeds(self):
        for deeds in ([KEEP], [], None, (KEEP,), [None], Anything()):
            hold_refusals(self, NoWord, lambda thing: done(thing, deeds), NO_WORDS + TOO_LONG)
        self.assertRaises(NoWord, done, (0,) * 10, [KEEP] * 10)


NO_DEEDS = OTHER_KINDS + [
    # other kinds in a tuple's or a text's stead
    "keep", "out", "put", ["keep"], ["out"], ["turn", 1], ["put", 1], {"keep": 1}, (b"keep",), (("keep",),), (None,),
    (0,), (Anything(),), (Anything(), 1), (["keep"],), (["put"], 1), (("put", 1),),
    # other names
    ("",), ("stay",), ("Keep",), ("KEEP",), ("keep ",), (" out",), ("kee",), ("swap", 1), ("Turn", 1), ("Put", 1),
    ("in", 1), ("out of",),
    # too few or too many parts
    ("keep", 0), ("keep", None), ("keep", ()), ("out", 0), ("out", None), ("keep", "keep"), ("turn",), ("put",),
    ("turn", 0, 1), ("put", 0, 1), ("put", 0, None), (1, "put"),
] + [
    # letters
    (name, letter)
    for name in ("turn", "put")
    for letter in (-1, 3, 10 ** 5000, True, False, 0.0, 1.5, "0", "", None, (0,), [0], (), Anything())
]


class StepsTest(unittest.TestCase):
    def test_written_answers(self):
        for one, other, told in [
            ((), (), 0), ((), (0, 1, 2), 3), ((0, 1), (0, 1), 0), ((0, 1), (1, 0), 2), ((0, 1, 2), (1, 2, 0), 2),
            ((0, 1, 2), (0, 2), 1), ((0, 0, 0), (1, 1, 1), 3), ((0, 1, 0, 1), (1, 0, 1, 0), 2), ((2,), (0, 1, 0), 3),
            ((0,) * 9, (1,) * 9, 9), ((0, 1, 2) * 3, (1, 2, 0) * 3, 2), ((0,) * 9, (), 9),
        ]:
            with self.subTest(one=one, other=other):
                self.assertEqual(steps(one, other), told)
                self.assertEqual(steps(other, one), told)

    def test_no_deeds_lead_with_fewer_and_some_with_as_few(self):
        words = words_up_to(3, 3)
        for one in words:
            fewest = steps_by_deeds(one, 3)
            self.assertEqual(len(fewest), len(words))
            for other in words:
                self.assertEqual(steps(one, other), fewest[other], (one, other))

    def test_longer_words(self):
        for words in (words_up_to(2, 4), LONG_WORDS):
            for one, other in product(words, repeat=2):
                self.assertEqual(steps(one, other), steps_between(one, other), (one, other))

    def test_what_is_no_word_is_refused_of_either(self):
        for ask in (steps, way):
            hold_refusals(self, NoWord, lambda thing: ask(thing, (0, 1)), NO_WORDS + TOO_LONG)
            hold_refusals(self, NoWord, lambda thing: ask((0, 1), thing), NO_WORDS + TOO_LONG)
            hold_refusals(self, NoWord, lambda thing: ask(thing, thing), NO_WORDS + TOO_LONG)


class WayTest(unittest.TestCase):
    def hold_way(self, one, other):
        told = way(one, other)
        self.assertIs(type(told), list)
        self.assertLessEqual(set(told), set(DEEDS), (one, other))
        self.assertEqual(made(one, told), other)
        self.assertEqual(done(one, told), other)
        self.assertEqual(costly(told), steps_between(one, other), (one, other))
        self.assertEqual(costly(told), steps(one, other), (one, other))

    def test_a_way_leads_with_as_few_deeds_as_there_are_steps(self):
        for words in (words_up_to(3, 3), words_up_to(2, 4), LONG_WORDS):
            for one, other in product(words, repeat=2):
                self.hold_way(one, other)

    def test_where_only_one_way_is_the_shortest(self):
        for one, other, told in [
            ((), (), []),
            ((0, 1, 2), (0, 1, 2), [KEEP, KEEP, KEEP]),
            ((), (2, 0), [("put", 2), ("put", 0)]),
            ((2, 0), (), [OUT, OUT]),
            ((0, 1), (0, 2), [KEEP, ("turn", 2)]),
            ((0, 1, 2), (0, 2), [KEEP, OUT, KEEP]),
            ((0, 2), (0, 1, 2), [KEEP, ("put", 1), KEEP]),
            ((0, 1, 2), (1, 2, 0), [OUT, KEEP, KEEP, ("put", 0)]),
        ]:
            with self.subTest(one=one, other=other):
                self.assertEqual(way(one, other), told)

    def test_the_list_is_a_new_one_each_time(self):
        first = way((0, 1), (1, 2, 2))
        before = copy.deepcopy(first)
        first.clear()
        self.assertEqual(way((0, 1), (1, 2, 2)), before)


if __name__ == "__main__":
    unittest.main()
