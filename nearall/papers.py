"""Papers: trees of letters that show that no word has a reach below a whole number."""

from nearall.books import begins_with_text, check_number, even_length, is_whole_within, words_of_length
from nearall.bounds import is_weights, least_weight
from nearall.nearest import nearest


def with_taken(taken, place, letter):
    more = dict(taken)
    more[place] = letter
    return more


def weights_show(book, number, weights, taken):
    return least_weight(book, weights, taken) > sum(weights) * (number - 1)


def leaf_shows(book, number, tree, taken):
    if len(tree) != 2 or not is_weights(tree[1], len(book[1])):
        return False
    return weights_show(book, number, tree[1], taken)


def branches_show(book, number, tree, taken):
    if len(tree) != 3:
        return False
    place = tree[1]
    trees = tree[2]
    if not is_whole_within(place, 0, len(book[1][0]) - 1) or place in taken:
        return False
    if not isinstance(trees, tuple) or len(trees) != book[0]:
        return False
    for letter in range(book[0]):
        if not tree_shows(book, number, trees[letter], with_taken(taken, place, letter)):
            return False
    return True


def tree_shows(book, number, tree, taken):
    if not begins_with_text(tree):
        return False
    if tree[0] == "weights":
        return leaf_shows(book, number, tree, taken)
    if tree[0] == "place":
        return branches_show(book, number, tree, taken)
    return False


def shows(book, number, thing):
    even_length(book)
    check_number(number)
    return tree_shows(book, number, thing, {})


def has_unlike_letters(book, place):
    return any([word[place] != book[1][0][place] for word in book[1]])


def next_place(book, taken):
    # Where all words have the same letter, taking letters would show no more.
    free = [place for place in range(len(book[1][0])) if place not in taken]
    return [place for place in free if has_unlike_letters(book, place)][0]


def grown(book, number, taken):
    # Weights of 0 and 1 are enough: at the latest with letters taken at all places
    # where the words have unlike ones, the farthest word alone shows the number.
    for weights in words_of_length(2, len(book[1]))[1:]:
        if weights_show(book, number, weights, taken):
            return ("weights", weights)
    place = next_place(book, taken)
    trees = [grown(book, number, with_taken(taken, place, letter)) for letter in range(book[0])]
    return ("place", place, tuple(trees))


def paper(book):
    least = nearest(book)[0]
    return grown(book, least, {})
