"""Diagonal forms of rows of integers: all that is asked about a system can be read off them.

The steps are whole and can be taken back: rows (columns) are exchanged, and multiples of one are taken off another.
"""


def weighted(numbers, others):
    """The sum of the products of the items of two rows."""
    return sum([one * other for one, other in zip(numbers, others)])


def lowered(line, times, other):
    """The row less a multiple of another one."""
    return [item - times * less for item, less in zip(line, other)]


def exchanged(line, one, other):
    """The items of a row of which two, at the given positions, change places."""
    found = list(line)
    found[one], found[other] = line[other], line[one]
    return found


def turned(rows):
    """The columns of the rows."""
    return [list(column) for column in zip(*rows)]


def unit_rows(size):
    """The rows of the unit matrix."""
    return [[int(column == row) for column in range(size)] for row in range(size)]


def block_of(rows):
    """The rows, each with a unit row behind it, and below them the unit rows of the columns.

    A step on the rows, or on the columns, is thereby noted in the unit rows at their end.
    """
    height, width = len(rows), len(rows[0])
    upper = [[*row, *unit] for row, unit in zip(rows, unit_rows(height))]
    lower = [unit + [0] * height for unit in unit_rows(width)]
    return upper + lower


def least_spot(block, height, width, start):
    """Row and column of the entry nearest to 0 among those from the start on that are not 0; None without such."""
    spots = []
    for row in range(start, height):
        for column in range(start, width):
            if block[row][column] != 0:
                spots.append((abs(block[row][column]), row, column))
    if not spots:
        return None
    return min(spots)[1:]


def nearest(number, divisor):
    """The integer by which the divisor comes nearest to the number."""
    return (2 * number + divisor) // (2 * divisor)


def rows_cleared(block, height, at):
    """The block with as much of the row at hand taken off each one below as leaves the least remainders."""
    pivot = block[at]
    found = block[:at + 1]
    for row in block[at + 1:height]:
        found.append(lowered(row, nearest(row[at], pivot[at]), pivot))
    return found + block[height:]


def columns_cleared(block, width, at):
    """The block with as much of the column at hand taken off each later one as leaves the least remainders."""
    return turned(rows_cleared(turned(block), width, at))


def is_clear(block, height, width, at):
    """Whether there is nothing but 0 below and behind the entry at hand on the diagonal."""
    below = [row[at] for row in block[at + 1:height]]
    return not any(below) and not any(block[at][at + 1:width])


def diagonal_form(rows):
    """The triple (diagonal, left, right) for rows of integers, all of one length.

    The rows, multiplied by left and right, have the diagonal's entries on their diagonal and 0 elsewhere. left is
    given by its rows, right by its columns. The diagonal goes on with 0, to be long enough for rows and columns.
    """
    height, width = len(rows), len(rows[0])
    block, at = block_of(rows), 0
    spot = least_spot(block, height, width, at)
    while spot is not None:
        row, column = spot
        block = [exchanged(line, column, at) for line in exchanged(block, row, at)]
        block = columns_cleared(rows_cleared(block, height, at), width, at)
        # A remainder that is left is nearer to 0 than the entry at hand, and is the next to be taken in its place.
        if is_clear(block, height, width, at):
            at = at + 1
        spot = least_spot(block, height, width, at)
    diagonal = [block[k][k] for k in range(at)] + [0] * (max(height, width) - at)
    left = [line[width:] for line in block[:height]]
    right = turned([line[:width] for line in block[height:]])
    return diagonal, left, right
