"""Equations over whole numbers, solved exactly."""


def unit_row(place, size):
    row = [0] * size
    row[place] = 1
    return row


def crossed_out(row, pivot_row, place, divisor):
    """The row without its number at the place; the division leaves no remainder (Bareiss)."""
    pivot = pivot_row[place]
    factor = row[place]
    return [(row[c] * pivot - factor * pivot_row[c]) // divisor for c in range(len(row))]


def solved(rows):
    """From M's rows those of d times the unit matrix, each with its row of d times M's inverse behind it.

    d is M's determinant. M's leading minors must not be 0, so that no rows need be swapped. Of the
    equations of sound funds they are above 0: in no column do the units that funds hold outweigh all units.
    """
    size = len(rows)
    work = [rows[r] + unit_row(r, size) for r in range(size)]
    divisor = 1
    for place in range(size):
        pivot_row = work[place]
        others = [crossed_out(row, pivot_row, place, divisor) for row in work]
        others[place] = pivot_row
        work = others
        divisor = pivot_row[place]
    return work
