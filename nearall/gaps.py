"""Deeds that lead from word to word, with gaps, and how many steps two words are apart."""

from nearall.books import MOST_LETTERS, begins_with_text, is_whole_within, is_word
from nearall.errors import NoDeeds, NoWord

LONGEST_WITH_GAPS = 9


def check_word_of_any(thing):
    if not is_word(thing, MOST_LETTERS, LONGEST_WITH_GAPS):
        raise NoWord("a word is a tuple of 0 to 9 letters from 0 to 2")


def is_deed(thing):
    if not begins_with_text(thing):
        return False
    if thing[0] in ("keep", "out"):
        return len(thing) == 1
    if thing[0] in ("turn", "put"):
        return len(thing) == 2 and is_whole_within(thing[1], 0, MOST_LETTERS - 1)
    return False


def goes_on(deed):
    return deed[0] != "put"


def writes(deed):
    return deed[0] != "out"


def check_deeds(word, deeds):
    if not isinstance(deeds, list) or not all([is_deed(deed) for deed in deeds]):
        raise NoDeeds("this is no list of deeds")
    if len([deed for deed in deeds if goes_on(deed)]) != len(word):
        raise NoDeeds("the deeds do not go on once for each letter of the word")


def done(word, deeds):
    check_word_of_any(word)
    check_deeds(word, deeds)
    written = []
    place = 0
    for deed in deeds:
        if writes(deed):
            written.append(word[place] if deed[0] == "keep" else deed[1])
        if goes_on(deed):
            place += 1
    return tuple(written)


# A row tells how many steps a word is apart from each beginning of another,
# the empty one first: so a word can grow, letter by letter, with its row.


def row_of_empty(other):
    return list(range(len(other) + 1))


def next_row(row, letter, other):
    longer = [row[0] + 1]
    for place in range(len(other)):
        kept_or_turned = row[place] + (0 if other[place] == letter else 1)
        longer.append(min(kept_or_turned, row[place + 1] + 1, longer[place] + 1))
    return longer


def fewest(one, other):
    row = row_of_empty(other)
    for letter in one:
        row = next_row(row, letter, other)
    return row[-1]


def steps(one, other):
    check_word_of_any(one)
    check_word_of_any(other)
    return fewest(one, other)


def first_deed(one, other):
    if len(one) == 0:
        return ("put", other[0])
    if len(other) == 0:
        return ("out",)
    # To keep a letter costs no step, and no way with another first deed is shorter.
    if one[0] == other[0]:
        return ("keep",)
    left = fewest(one, other) - 1
    if fewest(one[1:], other[1:]) == left:
        return ("turn", other[0])
    if fewest(one[1:], other) == left:
        return ("out",)
    return ("put", other[0])


def way(one, other):
    check_word_of_any(one)
    check_word_of_any(other)
    deeds = []
    while len(one) > 0 or len(other) > 0:
        deed = first_deed(one, other)
        deeds.append(deed)
        if goes_on(deed):
            one = one[1:]
        if writes(deed):
            other = other[1:]
    return deeds
