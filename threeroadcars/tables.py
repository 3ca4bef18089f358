"""How many loads the webs of one kind have, told by ends' loads, rounds and room (section 9).

A row stands for what some ends and rounds bear together on one more road: for each number
from 0 to the room, in how many ways.
"""

from math import comb


def signed_lots(ends):
    """For each sum of all l + 1 of a lot, how many even lots have it, less how many odd ones."""
    lots = {0: 1}
    for load in ends:
        longer = dict(lots)
        for total, many in lots.items():
            longer[total + load + 1] = longer.get(total + load + 1, 0) - many
        lots = longer
    return lots


def signed_choices(lots, left, chosen):
    """The signed sum, over lots, of the ways to choose so many of what a lot leaves and of them."""
    return sum([
        many * comb(left - total + chosen, chosen) for total, many in lots.items() if total <= left
    ])


def count_by_sums(room, ends):
    """The number of loads of a web without rounds, by signed sums."""
    if sum(ends) % 2:
        return 0
    lots, half, step = signed_lots(ends), sum(ends) // 2, room + 2
    # P(x) less P(x + 2) takes one choice less than P(x). As P(-x) is P(x), what m and -m tell
    # together is the difference of two such differences, which takes one choice less again.
    both_sides = [
        signed_choices(lots, half + 1 - m * step, len(ends) - 3)
        for m in range(1, (half + 1) // step + 1)
    ]
    return signed_choices(lots, half, len(ends) - 2) - sum(both_sides)


def times_table(row, room, number):
    """A row multiplied by the table of a number."""
    # The table has 1 where three numbers fit: from the difference to the sum of both,
    # or to what they leave of twice the room, by twos.
    return [
        sum(row[abs(number - i):min(number + i, 2 * room - number - i) + 1:2])
        for i in range(room + 1)
    ]


def times_one(row):
    """A row multiplied by the table of the number 1."""
    return [below + above for below, above in zip([0, *row[:-1]], [*row[1:], 0])]


def times_each(row):
    """A row multiplied by the table of each number from 0 to the room."""
    # The tables of n - 1 and n + 1 are together the table of n multiplied by that of 1.
    rows = [row, times_one(row)]
    while len(rows) < len(row):
        rows.append([both - below for both, below in zip(times_one(rows[-1]), rows[-2])])
    return rows[:len(row)]


def times_round(row):
    """A row multiplied by the table of a round."""
    # A table multiplied by itself is, by a flip, the sum of the tables of all numbers that fit
    # beside its own number twice: an even one fits so beside room + 1 - itself numbers.
    room = len(row) - 1
    rows = list(enumerate(times_each(row)))
    return [sum([(room + 1 - n) * line[i] for n, line in rows[::2]]) for i in range(room + 1)]


def unit_row(room, at):
    """A row that has 1 at one place, else 0."""
    return [1 if i == at else 0 for i in range(room + 1)]


def row_of_kind(room, ends, rounds):
    """The first row of the product of the tables of all ends' loads and of some rounds."""
    row = unit_row(room, 0)
    for load in ends:
        row = times_table(row, room, load)
    for _ in range(rounds):
        row = times_round(row)
    return row


def count_of_kind(room, ends, rounds):
    """The number of loads of each web with these ends' loads and so many rounds."""
    if rounds == 0:
        return count_by_sums(room, ends)
    return row_of_kind(room, ends, rounds)[0]
