"""The paces of tables that hang together, as the greatest roots of their own polynomials."""

from whichpaces.coefficients import single
from whichpaces.errors import NotTogether, TooMany
from whichpaces.factors import factors_of
from whichpaces.links import is_one_lot
from whichpaces.picking import around_root, picked_part
from whichpaces.rounds import round_polynomial
from whichpaces.sturm import sturm_row, unlike_compared
from whichpaces.tables import check_table, machine_of, table_links

MOST_PLACES = 6
MOST_SIZE = 999


def check_pair(table, other):
    """Refuse what are no two TABLES that hang together, and too great ones."""
    check_table(table)
    check_table(other)
    if not is_one_lot(table_links(table)) or not is_one_lot(table_links(other)):
        raise NotTogether()
    if max(len(table), len(other)) > MOST_PLACES:
        raise TooMany("places", MOST_PLACES)
    if max([max(row) for row in table + other]) > MOST_SIZE:
        raise TooMany("size", MOST_SIZE)


def own_polynomial(table):
    """The determinant of t less the TABLE."""
    told = round_polynomial(machine_of(table))
    return (0,) * (len(table) + 1 - len(told)) + told[::-1]


def top_of(table):
    """The least polynomial whose greatest real root is the pace of the TABLE, of any size."""
    whole = single(own_polynomial(table))
    low, high = around_root(sturm_row(whole), 0)
    return picked_part(factors_of(whole), low, high)


def tops_compared(least, other):
    """1 if the greatest real root of the first least polynomial is the greater one, -1 if the other's is, 0 of one."""
    if least == other:
        return 0
    return unlike_compared(sturm_row(least), 0, sturm_row(other), 0)
