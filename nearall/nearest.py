"""Words whose reach is the least, or at most some number."""

from nearall.books import check_number, distances, even_length, words_of_length


def candidates(book):
    length = even_length(book)
    return words_of_length(book[0], length)


def words_within(book, most):
    # The candidates come first: a refused book goes before a refused number.
    words = candidates(book)
    check_number(most)
    return [word for word in words if max(distances(book, word)) <= most]


def measured(book, word):
    away = distances(book, word)
    return (max(away), sum(away), word)


# All candidates are of one length, so the least of tuples that end with
# a word holds the first word of those that are alike before it.


def nearest(book):
    return min([(max(distances(book, word)), word) for word in candidates(book)])


def count_within(book, most):
    return len(words_within(book, most))


def first_within(book, most):
    words = words_within(book, most)
    return words[0] if words else None


def nearest_of_all(book):
    return min([measured(book, word) for word in candidates(book)])
