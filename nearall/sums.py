"""Words whose sum is the least."""

from nearall.books import distances
from nearall.nearest import candidates


def least_sum(book):
    # All candidates are of one length, so the least tuple holds the first word.
    return min([(sum(distances(book, word)), word) for word in candidates(book)])


def count_least_sum(book):
    sums = [sum(distances(book, word)) for word in candidates(book)]
    return sums.count(min(sums))
