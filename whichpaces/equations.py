"""Square tables of integers: equations solved without fractions."""


def with_pivot_ahead(rows, place):
    """The rows, those from the place on begun with one that is not 0 at the place; None without such a one."""
    for found in range(place, len(rows)):
        if rows[found][place]:
            return rows[:place] + [rows[found]] + rows[place:found] + rows[found + 1:]
    return None


def solved(rows):
    """The answers of so many equations, each with its sums behind it, and the number that divides all of them.

    For each unknown its answers, one for each of the sums; each division on
    the way leaves no rest. None if there is not just one answer.
    """
    last = 1
    many = len(rows)
    for place in range(many):
        rows = with_pivot_ahead(rows, place)
        if rows is None:
            return None
        lead = rows[place]
        pivot = lead[place]
        for at in range(many):
            if at != place:
                factor = rows[at][place]
                rows[at] = [(pivot * number - factor * top) // last for number, top in zip(rows[at], lead)]
        last = pivot
    return [row[many:] for row in rows], last


def inverse_of(rows):
    """The inverse of a square table whose determinant is 1 or -1; None of any other one."""
    units = [[int(at == place) for at in range(len(rows))] for place in range(len(rows))]
    found = solved([list(row) + unit for row, unit in zip(rows, units)])
    if found is None or abs(found[1]) != 1:
        return None
    answers, under = found
    return [[number * under for number in row] for row in answers]


def rows_times(rows, table):
    """The rows, each put ahead of a table with as many lines as a row has numbers."""
    across = list(zip(*table))
    return [[sum([number * more for number, more in zip(row, line)]) for line in across] for row in rows]


def led_by(row, table):
    """The row put ahead of a square table: the sums, by column, of the row times the table."""
    return rows_times([row], table)[0]
