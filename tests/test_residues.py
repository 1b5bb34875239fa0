"""Degrees of parts modulo primes [41], [42]."""

import unittest
from itertools import product

from helpers import BAD_POLYNOMIAL, NO_INTEGERS, check_call, check_state, check_wrong, times

from whichpaces.errors import InvalidMany, InvalidPolynomial, NotMonic
from whichpaces.residues import residue_degrees

PRIMES = [2, 3, 5, 7, 11, 13]
BAD_PRIME = (InvalidMany, NO_INTEGERS + [-3, -2, 0, 1, 4, 6, 9, 12, 14, 15, 17, 19, 10 ** 40])


def monic_rows(degree, prime):
    """All monic rows of the degree with numbers from 0 to the prime less 1."""
    return [row + (1,) for row in product(range(prime), repeat=degree)]


def part_table(degree, prime):
    """For each monic row of a degree to this one the rising list of its parts, told plainly."""
    table = {(1,): []}
    parts = []
    for now in range(1, degree + 1):
        new = [row for row in monic_rows(now, prime) if row not in table]
        for part in new:
            table[part] = [part]
        parts += new
        for whole in list(table):
            for part in parts:
                if len(whole) + len(part) <= degree + 2:
                    made = tuple([number % prime for number in times(whole, part)])
                    table.setdefault(made, sorted(table[whole] + [part]))
        fill(table, parts, degree, prime)
    return table


def fill(table, parts, degree, prime):
    """Put all products of the parts, to the degree, into the table."""
    waiting = list(table)
    while waiting:
        whole = waiting.pop()
        for part in parts:
            if len(whole) + len(part) <= degree + 2:
                made = tuple([number % prime for number in times(whole, part)])
                if made not in table:
                    table[made] = sorted(table[whole] + [part])
                    waiting.append(made)


class Residues(unittest.TestCase):
    def test_each_short_row(self):
        for prime, degree in [(2, 6), (3, 4), (5, 3), (7, 2)]:
            for row, parts in part_table(degree, prime).items():
                if len(row) > 1:
                    double = any([one == two for one, two in zip(parts, parts[1:])])
                    expected = None if double else sorted([len(part) - 1 for part in parts])
                    self.assertEqual(residue_degrees(row, prime), expected, (row, prime))
                    shifted = tuple([number - 6 * prime for number in row[:-1]]) + (1,)
                    self.assertEqual(residue_degrees(shifted, prime), expected, (row, prime))

    def test_degree_one(self):
        for prime in PRIMES:
            for number in [0, 1, -1, 8, prime, -10 ** 6, 10 ** 6]:
                check_call(self, residue_degrees, ((number, 1), prime), [1])

    def test_double_parts(self):
        for prime in PRIMES:
            check_call(self, residue_degrees, ((0, 0, 1), prime), None)
            check_call(self, residue_degrees, (times((1, 1), (1 + prime, 1)), prime), None)
            check_call(self, residue_degrees, (times((1, 1, 1), (1, 1, 1), (0, 1)), prime), None)
            check_call(self, residue_degrees, ((-1,) + (0,) * (prime - 2) + (1,), prime), [1] * (prime - 1))
            if prime < 13:
                check_call(self, residue_degrees, ((-1,) + (0,) * (prime - 1) + (1,), prime), None)
                check_call(self, residue_degrees, ((0, -1) + (0,) * (prime - 2) + (1,), prime), [1] * prime)
                check_call(self, residue_degrees, ((-1, -1) + (0,) * (prime - 2) + (1,), prime), [prime])

    def test_great_degrees(self):
        # By the order of the prime modulo 13, 21 and 7 the parts of these have that degree.
        check_call(self, residue_degrees, ((1,) * 13, 2), [12])
        check_call(self, residue_degrees, ((1,) * 13, 3), [3, 3, 3, 3])
        check_call(self, residue_degrees, ((1,) * 13, 5), [4, 4, 4])
        check_call(self, residue_degrees, ((1,) * 13, 13), None)
        ones = (1, -1, 0, 1, -1, 0, 1, 0, -1, 1, 0, -1, 1)
        for prime, degrees in [(2, [6, 6]), (3, None), (5, [6, 6]), (7, None), (11, [6, 6]), (13, [2] * 6)]:
            check_call(self, residue_degrees, (ones, prime), degrees)
        check_call(self, residue_degrees, (times((1,) * 7, (-1, 1), (-3, 0, 1)), 13), [1, 1, 1, 2, 2, 2])

    def test_wrong_values(self):
        check_wrong(self, residue_degrees, ((1, 0, 0, 0, 1), 3), [BAD_POLYNOMIAL, BAD_PRIME])

    def test_not_monic_comes_behind(self):
        for row in [(), (1,), (-1,), (5,), (1, 2), (1, -1), (1, 0, 10 ** 6)]:
            check_state(self, NotMonic, residue_degrees, row, 3)
            check_state(self, InvalidMany, residue_degrees, row, 4)
        check_state(self, InvalidPolynomial, residue_degrees, (1, 0), 4)


if __name__ == "__main__":
    unittest.main()
