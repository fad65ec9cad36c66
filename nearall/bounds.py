"""Bounds that no word's reach is below: by weights of the words, and the two words farthest apart."""

from nearall.books import apart, even_length, is_whole_within
from nearall.errors import NoWeights

MOST_WEIGHT = 99


def is_weights(thing, how_many):
    if not isinstance(thing, tuple) or len(thing) != how_many:
        return False
    if not all([is_whole_within(weight, 0, MOST_WEIGHT) for weight in thing]):
        return False
    return sum(thing) > 0


def weight_of_others(book, weights, place, letter):
    return sum([weight for word, weight in zip(book[1], weights) if word[place] != letter])


def least_weight(book, weights, taken):
    # Letters taken at some places, by place, leave no choice there.
    together = 0
    for place in range(len(book[1][0])):
        letters = [taken[place]] if place in taken else list(range(book[0]))
        together += min([weight_of_others(book, weights, place, letter) for letter in letters])
    return together


def greatest_divisor(one, other):
    while other != 0:
        rest = one % other
        one = other
        other = rest
    return one


def bound(book, weights):
    even_length(book)
    if not is_weights(weights, len(book[1])):
        raise NoWeights("weights are a tuple of a whole number from 0 to 99 for each word, not all 0")
    up = least_weight(book, weights, {})
    down = sum(weights)
    divisor = greatest_divisor(up, down)
    return (up // divisor, down // divisor)


def far_pair(book):
    even_length(book)
    words = book[1]
    farthest = None
    for one in range(len(words)):
        for other in range(one + 1, len(words)):
            away = apart(words[one], words[other])
            # Only a farther pair takes the place of an earlier one: the first is told.
            if farthest is None or away > farthest[2]:
                farthest = (one, other, away)
    return farthest
