"""Pivots: the best shares and the best prices, reckoned in rows of whole numbers over one bottom.

There is a row for each size, and last the row of prices. A column stands for each
lot, then one for each size, for its things that stay unused, and last the one of
how many there are. What a row tells is its numbers by the bottom.
"""


def first_rows(kinds, lots):
    """The rows by which all things stay unused."""
    rows = []
    for place, (size, many) in enumerate(kinds):
        unused = [0] * len(kinds)
        unused[place] = 1
        rows.append([lot.count(size) for lot in lots] + unused + [many])
    rows.append([-1] * len(lots) + [0] * (len(kinds) + 1))
    return rows


def column_to_use(rows):
    """The first column that costs less than it brings; None where there is none."""
    for column, price in enumerate(rows[-1]):
        if price < 0:
            return column
    return None


def is_used_up_first(rows, used, column, one, other):
    """Whether the row one is used up ahead of the row other as the column is used more and more."""
    left = rows[one][-1] * rows[other][column]
    right = rows[other][-1] * rows[one][column]
    return left < right or (left == right and used[one] < used[other])


def row_to_leave(rows, used, column):
    """The row that is used up first as the column is used more and more.

    There is one, as no lot and no thing can be used without end.
    """
    first = None
    for row in range(len(used)):
        if rows[row][column] > 0 and (first is None or is_used_up_first(rows, used, column, row, first)):
            first = row
    return first


def pivoted(rows, bottom, row, column):
    """The rows with the column used in the row; their bottom is the number there."""
    chosen = rows[row]
    pivot = chosen[column]
    told = []
    for place, old in enumerate(rows):
        if place == row:
            told.append(old)
        else:
            # Each number is a determinant of the first rows: the bottom divides it.
            factor = old[column]
            told.append([(one * pivot - factor * other) // bottom for one, other in zip(old, chosen)])
    return told


def best_rows(kinds, lots):
    """A triple (rows, bottom, used) at which no column brings more, used being the column of each size's row.

    Always the first of several columns is taken, into and out of use: so no choice comes again.
    """
    rows = first_rows(kinds, lots)
    bottom = 1
    used = [len(lots) + place for place in range(len(kinds))]
    column = column_to_use(rows)
    while column is not None:
        row = row_to_leave(rows, used, column)
        rows, bottom = pivoted(rows, bottom, row, column), rows[row][column]
        used[row] = column
        column = column_to_use(rows)
    return (rows, bottom, used)
