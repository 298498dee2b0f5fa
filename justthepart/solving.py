"""Solving equations of integers exactly."""


def solved(rows):
    """Return (below, columns) for rows of n integers, and behind these one more for each column asked for.

    The columns over below solve the equations. Each leading part of the n times n integers must have a
    determinant that is not 0; below is the determinant of them all.
    """
    many = len(rows)
    rows = [list(row) for row in rows]
    below = 1
    for at in range(many):
        pivot_row = rows[at]
        pivot = pivot_row[at]
        for other in range(many):
            factor = rows[other][at]
            if other != at:
                # Each number stays a determinant of some of the first ones: the division leaves nothing.
                rows[other] = [(pivot * one - factor * two) // below for one, two in zip(rows[other], pivot_row)]
        below = pivot
    return below, [[row[at] for row in rows] for at in range(many, len(rows[0]))]
