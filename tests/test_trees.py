"""Point 31: sheetfold.trees."""

import itertools
import unittest
from math import gcd

from keeping import ask_and_wreck, refused_and_kept
from sheet_samples import Draws
from sheetfold.errors import TooMany
from sheetfold.trees import all_trees, count_trees
from tree_samples import plain_count


def each_two(n):
    return list(itertools.combinations(range(n), 2))


def row(n):
    return [(k, k + 1) for k in range(n - 1)]


def round_of(n):
    return row(n) + [(0, n - 1)]


def is_tree(n, pairs):
    """Whether the pairs are one fewer than the things, and tie them all."""
    groups = list(range(n))
    for i, j in pairs:
        groups = [groups[i] if group == groups[j] else group for group in groups]
    return len(pairs) == n - 1 and len(set(groups)) == 1


def plain_trees(n, pairs):
    """All trees by going through all lists of n - 1 places."""
    lists = itertools.combinations(range(len(pairs)), n - 1)
    return [list(places) for places in lists if is_tree(n, [pairs[k] for k in places])]


def mixed(draws, n, pairs):
    """The same ties with other names of the things, in another order, some pairs turned about."""
    names = draws.shuffled(range(n))
    anew = [(names[i], names[j]) if draws.below(2) else (names[j], names[i]) for i, j in pairs]
    return draws.shuffled(anew)


def ties_with(trees, forests):
    """Things and pairs with so many trees, and forests that part the first thing from the last (two coprime numbers).

    A pair beside all that is tied adds the forests to the trees, one behind it the trees to the forests.
    """
    steps = []
    while (trees, forests) != (1, 1):
        steps.append("beside" if trees > forests else "behind")
        if trees > forests:
            trees -= forests
        else:
            forests -= trees
    n, pairs, end = 2, [(0, 1)], 1
    for step in reversed(steps):
        if step == "beside":
            pairs.append((0, end))
        else:
            pairs.append((end, n))
            n, end = n + 1, n
    return n, pairs


def shortest_ties(trees):
    """The shortest of the ties with so many trees."""
    found = [ties_with(trees, forests) for forests in range(1, trees + 1) if gcd(trees, forests) == 1]
    return min(found, key=lambda ties: (len(ties[1]), ties[0]))


def drawn_ties(draws):
    ties = []
    for n in range(1, 8):
        for _ in range(12):
            count = draws.below(10) if n > 1 else 0
            ties.append((n, [tuple(draws.shuffled(range(n))[:2]) for _ in range(count)]))
    return ties


DRAWN = drawn_ties(Draws(81))


class Counted(unittest.TestCase):
    def test_one_thing(self):
        self.assertEqual((count_trees(1, []), all_trees(1, [])), (1, [[]]))

    def test_two_things(self):
        self.assertEqual((count_trees(2, []), all_trees(2, [])), (0, []))
        self.assertEqual((count_trees(2, [(0, 1)]), all_trees(2, [(0, 1)])), (1, [[0]]))
        self.assertEqual((count_trees(2, [(0, 1), (1, 0), (0, 1)]), all_trees(2, [(1, 0)] * 3)), (3, [[0], [1], [2]]))

    def test_things_that_do_not_hang_together(self):
        for n, pairs in [(3, [(0, 1)]), (3, [(1, 2)]), (4, [(0, 1), (2, 3)]), (4, [(0, 1), (1, 2), (0, 2)]), (26, [])]:
            self.assertEqual((count_trees(n, pairs), all_trees(n, pairs)), (0, []))
        self.assertEqual(count_trees(5, [(1, 2), (2, 3), (3, 1), (4, 1), (4, 3)]), 0)
        self.assertEqual(count_trees(26, each_two(8)), 0)

    def test_rows_and_rounds(self):
        for n in range(2, 27):
            self.assertEqual((count_trees(n, row(n)), all_trees(n, row(n))), (1, [list(range(n - 1))]))
        for n in range(3, 27):
            self.assertEqual(count_trees(n, round_of(n)), n)
            self.assertEqual(all_trees(n, round_of(n)), [[k for k in range(n) if k != m] for m in reversed(range(n))])

    def test_each_two_are_a_pair(self):
        for n in range(2, 12):
            self.assertEqual(count_trees(n, each_two(n)), n ** (n - 2))
        self.assertEqual(all_trees(4, each_two(4)), plain_trees(4, each_two(4)))
        self.assertEqual(all_trees(5, each_two(5)), plain_trees(5, each_two(5)))
        self.assertEqual((len(all_trees(4, each_two(4))), len(all_trees(5, each_two(5)))), (16, 125))

    def test_several_pairs_alike(self):
        pairs = [(0, 1), (1, 0), (1, 2), (2, 1), (1, 2)]
        self.assertEqual(count_trees(3, pairs), 6)
        self.assertEqual(all_trees(3, pairs), [[0, 2], [0, 3], [0, 4], [1, 2], [1, 3], [1, 4]])

    def test_a_lattice_of_squares(self):
        for width, count in [(2, 4), (3, 192), (4, 100352), (5, 557568000)]:
            pairs = [(k, k + 1) for k in range(width * width) if k % width < width - 1]
            pairs += [(k, k + width) for k in range(width * (width - 1))]
            self.assertEqual(count_trees(width * width, pairs), count)

    def test_drawn_by_lot_against_a_plain_going_through(self):
        told_some = 0
        for n, pairs in DRAWN:
            want = plain_trees(n, pairs)
            self.assertEqual((type(count_trees(n, pairs)), count_trees(n, pairs)), (int, len(want)))
            if len(want) <= 400:
                told_some += len(want) > 1
                self.assertEqual(repr(all_trees(n, pairs)), repr(want))
        self.assertGreater(told_some, 15)

    def test_twenty_six_things_and_sixty_pairs(self):
        draws = Draws(82)
        for _ in range(25):
            pairs = [(k, draws.below(k)) for k in range(1, 26)]
            while len(pairs) < 60:
                pairs.append(tuple(draws.shuffled(range(26))[:2]))
            pairs = mixed(draws, 26, pairs)
            self.assertEqual(count_trees(26, pairs), plain_count(26, pairs))
            self.assertGreater(count_trees(26, pairs), 400)
            refused_and_kept(self, TooMany, all_trees, 26, pairs)

    def test_names_and_order_do_not_count(self):
        draws = Draws(83)
        for n, pairs in DRAWN + [(9, round_of(9)), (7, each_two(7))]:
            self.assertEqual(count_trees(n, mixed(draws, n, pairs)), count_trees(n, pairs))


class Told(unittest.TestCase):
    def assert_told(self, n, pairs, count):
        self.assertLessEqual(len(pairs), 60)
        self.assertEqual(count_trees(n, pairs), count)
        told = all_trees(n, pairs)
        self.assertEqual(len(told), count)
        self.assertTrue(all(one < other for one, other in zip(told, told[1:])))
        for tree in told:
            self.assertEqual(tree, sorted(set(tree)))
            self.assertTrue(is_tree(n, [pairs[k] for k in tree]))

    def test_so_many_trees_as_are_asked_for(self):
        draws = Draws(84)
        for count in [1, 2, 3, 17, 100, 250, 384, 399, 400]:
            n, pairs = shortest_ties(count)
            self.assert_told(n, pairs, count)
            self.assert_told(n, mixed(draws, n, pairs), count)

    def test_400_in_other_forms(self):
        # Four rounds, each tied to the next at one thing.
        pairs, first = [], 0
        for size in [5, 5, 4, 4]:
            pairs += [(first + i, first + j) for i, j in round_of(size)]
            first += size - 1
        self.assert_told(first + 1, pairs, 400)
        self.assert_told(3, [(0, 1)] * 20 + [(1, 2)] * 20, 400)

    def test_401_are_refused(self):
        draws = Draws(85)
        n, pairs = shortest_ties(401)
        self.assertEqual(count_trees(n, pairs), 401)
        refused_and_kept(self, TooMany, all_trees, n, pairs)
        refused_and_kept(self, TooMany, all_trees, n, mixed(draws, n, pairs))

    def test_more_are_refused(self):
        for count in [402, 420, 441, 500, 1000]:
            n, pairs = shortest_ties(count)
            self.assertEqual(count_trees(n, pairs), count)
            refused_and_kept(self, TooMany, all_trees, n, pairs)
        refused_and_kept(self, TooMany, all_trees, 6, each_two(6))
        refused_and_kept(self, TooMany, all_trees, 3, [(0, 1)] * 20 + [(1, 2)] * 21)

    def test_many_things_and_pairs_with_few_trees(self):
        pairs = row(26) + [(24, 25)] * 35
        self.assert_told(26, pairs, 36)
        self.assert_told(26, pairs[::-1], 36)
        self.assert_told(26, [(1, 0)] * 36 + row(26)[1:], 36)


class Keeping(unittest.TestCase):
    def test_what_is_handed_in_and_told(self):
        for n, pairs in DRAWN[::3]:
            ask_and_wreck(self, count_trees, n, pairs)
            if count_trees(n, pairs) <= 400:
                ask_and_wreck(self, all_trees, n, pairs)
        ask_and_wreck(self, all_trees, 1, [])
        ask_and_wreck(self, all_trees, 3, [])
        ask_and_wreck(self, all_trees, 4, each_two(4))


if __name__ == "__main__":
    unittest.main()
