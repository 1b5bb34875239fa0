"""What tables that hang together only make greater by their paces, as polynomials in the pace, and seen near.

For a table A and its own polynomial P there is just one square table of
polynomials whose product with t - A is P at the corners and 0 elsewhere: at
the pace its first column is above 0, and A makes it greater by the pace.
"""

from whichpaces.equations import rows_times
from whichpaces.sturm import floor_of_root


def column_rows(table, own):
    """For each place the polynomial of the first column, by the table's own polynomial."""
    column = [1] + [0] * (len(table) - 1)
    columns = [column]
    for number in reversed(own[1:-1]):
        column = [row[0] for row in rows_times(table, [[told] for told in column])]
        column[0] += number
        columns.append(column)
    rising = columns[::-1]
    return list(zip(*rising))


def turned(table):
    """The table with its rows as columns."""
    return list(zip(*table))


def powers_near(rows, many, places):
    """The powers of the greatest real root below many, by its Sturm row, times 2 ** places, nearly."""
    low = floor_of_root(rows, 0, places)
    powers = [1 << places]
    for _ in range(many - 1):
        powers.append((powers[-1] * low) >> places)
    return powers


def worth_near(row, powers):
    """The worth of a polynomial by the powers of the root."""
    return sum([number * power for number, power in zip(row, powers)])
