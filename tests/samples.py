"""Trees to test with, and slow plain answers to compare with."""

import functools
import random
from itertools import product

T = (5, ((0, 1, 1), (1, 2, 1), (1, 3, 1), (3, 4, 1)))
D = (3, ((0, 1, 5), (0, 2, 1)))

MOST = 16
GREATEST = 1000000000


def make_tree(count, edges):
    """Return the tree with these edges, given in any order and direction."""
    return count, tuple(sorted((min(a, b), max(a, b), delay) for a, b, delay in edges))


def make_plain(count, pairs):
    return make_tree(count, [(a, b, 1) for a, b in pairs])


def vary_delays(tree):
    """Return the tree with many different delays, 1 and the greatest one among them."""
    count, edges = tree
    delays = (1, GREATEST, 3, 3, 70, 2, GREATEST - 1, 12345)
    return count, tuple((a, b, delays[at % len(delays)]) for at, (a, b, _) in enumerate(edges))


def path_tree(order):
    return make_plain(len(order), zip(order, order[1:]))


def star_tree(count, centre):
    return make_plain(count, [(centre, leaf) for leaf in range(count) if leaf != centre])


def heap_tree(count):
    return make_plain(count, [((k - 1) // 2, k) for k in range(1, count)])


def caterpillar(count):
    """A path over the even vertices, with an odd vertex at each of them."""
    spine = [(k, k + 2) for k in range(0, count - 2, 2)]
    return make_plain(count, spine + [(k - 1, k) for k in range(1, count, 2)])


def tree_of_code(code):
    """Return the plain tree with this Pruefer code: each tree has exactly one."""
    count = len(code) + 2
    degrees = [1 + code.count(k) for k in range(count)]
    pairs = []
    for vertex in code:
        leaf = degrees.index(1)
        pairs.append((leaf, vertex))
        degrees[leaf] -= 1
        degrees[vertex] -= 1
    pairs.append(tuple(k for k in range(count) if degrees[k] == 1))
    return make_plain(count, pairs)


def all_plain_trees(count):
    """Return all plain trees with this number of vertices."""
    if count == 1:
        return [(1, ())]
    return [tree_of_code(code) for code in product(range(count), repeat=count - 2)]


def mixed_trees(least, most, many, greatest, seed):
    """Return trees of all shapes with delays from 1 to the greatest one: the same ones each time."""
    source = random.Random(seed)
    trees = []
    for _ in range(many):
        count = source.randint(least, most)
        names = source.sample(range(count), count)
        reach = source.randint(1, count)
        trees.append(make_tree(count, [
            (names[k], names[source.randint(max(0, k - reach), k - 1)], source.randint(1, greatest))
            for k in range(1, count)
        ]))
    return trees


ZIGZAG = [k // 2 if k % 2 == 0 else MOST - 1 - k // 2 for k in range(MOST)]

LARGE_PLAIN = [
    path_tree(range(MOST)),
    path_tree(ZIGZAG),
    star_tree(MOST, 0),
    star_tree(MOST, 7),
    star_tree(MOST, MOST - 1),
    heap_tree(MOST),
    caterpillar(MOST),
]
LARGE = LARGE_PLAIN + [vary_delays(tree) for tree in LARGE_PLAIN]
SMALL = [tree for count in range(1, 6) for tree in all_plain_trees(count)]
MIXED_SMALL = mixed_trees(2, 6, 60, 3, 1)
MIXED_LARGE = mixed_trees(12, MOST, 20, 2, 2) + mixed_trees(MOST, MOST, 20, 5, 3) + mixed_trees(9, MOST, 5, GREATEST, 4)
TREES = (
    [T, D, (2, ((0, 1, GREATEST),))]
    + SMALL
    + [vary_delays(tree) for tree in SMALL]
    + LARGE
)
# Small enough to try everything, large enough to have all forms.
TRIED = [T, D] + SMALL + [vary_delays(tree) for tree in SMALL] + MIXED_SMALL


@functools.cache
def all_distances(tree):
    """Return the table of the distances, by shortening ways over each vertex in turn."""
    count, edges = tree
    far = (count + 1) * 2 * GREATEST
    table = [[0 if a == b else far for b in range(count)] for a in range(count)]
    for a, b, delay in edges:
        table[a][b] = table[b][a] = delay
    for mid in range(count):
        for a in range(count):
            for b in range(count):
                table[a][b] = min(table[a][b], table[a][mid] + table[mid][b])
    return table
