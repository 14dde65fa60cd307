"""Steps between words by their numbers: knots, orders and rings that turn, beside going through all rows of steps."""

import math
import random
import unittest

from boughturn.steps import common_multiple, knots, step_orders, turning_ring, turning_steps


def chance_rows(seed, many, turns):
    """So many words with up to three steps each, by chance."""
    chance = random.Random(seed)
    rows = []
    for _ in range(many):
        targets = [chance.randrange(many) for _ in range(chance.choice((0, 1, 1, 2, 3)))]
        rows.append([(at, chance.choice(turns), target) for at, target in enumerate(targets)])
    return rows


def reached(rows, start):
    """The words to which steps lead from a word, itself only where a ring does."""
    found = []
    ahead = [start]
    while ahead:
        for letter, many, target in rows[ahead.pop()]:
            if target not in found:
                found.append(target)
                ahead.append(target)
    return found


class StepsTests(unittest.TestCase):

    def test_common_multiples(self):
        for one in range(1, 30):
            for other in range(1, 30):
                self.assertEqual(common_multiple(one, other), math.lcm(one, other))
        self.assertEqual(common_multiple(2 ** 900, 6), 3 * 2 ** 900)

    def test_knots(self):
        for seed in range(300):
            rows = chance_rows(seed, seed % 9 + 1, (1,))
            knotted = knots(rows)
            to = [reached(rows, number) for number in range(len(rows))]
            for one in range(len(rows)):
                for other in range(len(rows)):
                    both = one == other or (other in to[one] and one in to[other])
                    self.assertEqual(knotted[one] == knotted[other], both, rows)
                for letter, many, target in rows[one]:
                    self.assertGreaterEqual(knotted[target], knotted[one], rows)

    def test_steps_that_turn(self):
        kinds = set()
        for seed in range(300):
            rows = chance_rows(seed, seed % 7 + 1, (1, 1, 1, 2, 3))
            turning = turning_steps(rows, knots(rows))
            told = [
                (number, step) for number, row in enumerate(rows) for step in row
                if step[1] > 1 and (step[2] == number or number in reached(rows, step[2]))
            ]
            self.assertEqual(turning, told)
            kinds.add(bool(turning))
            if turning:
                self.check_ring(rows, turning_ring(rows, turning))
        self.assertEqual(kinds, {True, False})

    def check_ring(self, rows, ring):
        """The steps are such, each from where the one ahead leads to, round to the first; one at least turns."""
        for at, (number, step) in enumerate(ring):
            self.assertIn(step, rows[number])
            self.assertEqual(step[2], ring[(at + 1) % len(ring)][0])
        self.assertGreater(math.prod(step[1] for number, step in ring), 1)

    def test_the_ring_of_least_times(self):
        rows = [[(0, 3, 0), (1, 1, 1)], [(0, 2, 2)], [(0, 1, 1)]]
        self.assertEqual(turning_ring(rows, turning_steps(rows, knots(rows))), [(1, (0, 2, 2)), (2, (0, 1, 1))])

    def test_orders(self):
        told = 0
        for seed in range(400):
            rows = chance_rows(seed, seed % 8 + 1, (1, 1, 2, 3))
            knotted = knots(rows)
            if not turning_steps(rows, knotted):
                told += 1
                orders = [1] * len(rows)
                for _ in range(2 * len(rows)):
                    orders = [math.lcm(1, *(step[1] * orders[step[2]] for step in row)) for row in rows]
                self.assertEqual(step_orders(rows, knotted), orders, rows)
        self.assertGreater(told, 50)

    def test_a_long_row_of_steps(self):
        rows = [[(0, 2, at + 1)] for at in range(3000)] + [[]]
        knotted = knots(rows)
        self.assertEqual(step_orders(rows, knotted)[:2], [2 ** 3000, 2 ** 2999])
        rows[3000] = [(0, 1, 0)]
        ring = turning_ring(rows, turning_steps(rows, knots(rows))[:1])
        self.assertEqual(len(ring), 3001)


if __name__ == "__main__":
    unittest.main()
