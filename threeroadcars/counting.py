"""How many loads there are, told by the ends' loads, the rounds and the room (section 9)."""

from math import comb

from threeroadcars.checks import GREATEST_ROOM, are_up_to, check_ends, check_room, is_up_to
from threeroadcars.errors import BadEnds, BadModulus, BadNumber, BadRounds
from threeroadcars.loads import can_meet

MOST_BY_TABLES = 60
MOST_ENDS_BY_SUMS = 8
FAR_ROOM = 20
FAR_ENDS = 14
FAR_ROUNDS = 10 ** 18
LEAST_MODULUS = 3
GREATEST_MODULUS = 9973


def signed_lots(ends):
    """For each sum of all l + 1 of a lot, how many even lots have it, less how many odd ones."""
    lots = {0: 1}
    for load in ends:
        longer = dict(lots)
        for total, many in lots.items():
            longer[total + load + 1] = longer.get(total + load + 1, 0) - many
        lots = longer
    return lots


def ways_to_add_up(lots, ends, x):
    """P(x): in how many ways one number of l, l - 2, .., -l for each end's load l adds up to x."""
    twice = sum(ends) - x
    if twice < 0 or twice % 2:
        return 0
    last = len(ends) - 1
    return sum([
        many * comb(twice // 2 + last - total, last)
        for total, many in lots.items() if total <= twice // 2
    ])


def count_by_sums(room, ends):
    """The number of loads of a web without rounds, by signed sums."""
    lots = signed_lots(ends)
    step = 2 * (room + 2)
    # Beyond the sum of all ends' loads there is no way to add up.
    farthest = sum(ends) // step + 1
    return sum([
        ways_to_add_up(lots, ends, at * step) - ways_to_add_up(lots, ends, at * step + 2)
        for at in range(-farthest, farthest + 1)
    ])


def times_table(row, room, number):
    """A row multiplied by the table of a number."""
    # The table has 1 where three numbers fit: from the difference to the sum of both,
    # or to what they leave of twice the room, by twos.
    return [
        sum(row[abs(number - i):min(number + i, 2 * room - number - i) + 1:2])
        for i in range(room + 1)
    ]


def times_round(row, room):
    """A row multiplied by the table of a round."""
    rows = [times_table(times_table(row, room, n), room, n) for n in range(room + 1)]
    return [sum(column) for column in zip(*rows)]


def unit_row(room, at):
    """A row that has 1 at one place, else 0."""
    return [1 if i == at else 0 for i in range(room + 1)]


def row_of_ends(room, ends):
    """The first row of the product of the tables of all ends' loads."""
    row = unit_row(room, 0)
    for load in ends:
        row = times_table(row, room, load)
    return row


def count_by_tables(room, ends, rounds):
    """The number of loads, by tables."""
    row = row_of_ends(room, ends)
    for _ in range(rounds):
        row = times_round(row, room)
    return row[0]


def count(web, room, ends):
    """How many loads of a web fit a room and have these ends' loads."""
    by_sums = web.rounds == 0 and len(web.ends) <= MOST_ENDS_BY_SUMS
    check_room(room, GREATEST_ROOM if by_sums else MOST_BY_TABLES)
    check_ends(web, room, ends)
    if by_sums:
        return count_by_sums(room, ends)
    return count_by_tables(room, ends, web.rounds)


def do_meet(room, numbers):
    """Whether three numbers fit at one junction."""
    return can_meet(numbers) and sum(numbers) <= 2 * room


def table(room, number):
    """For each i and j: 1 if three roads that bear number, i and j fit at one junction, else 0."""
    check_room(room, MOST_BY_TABLES)
    if not is_up_to(number, room):
        raise BadNumber(number)
    places = range(room + 1)
    return tuple([
        tuple([1 if do_meet(room, (number, i, j)) else 0 for j in places]) for i in places
    ])


def times_symmetric(row, square, modulus):
    """The remainders of a row multiplied by a square that is the same by rows and by columns."""
    return [sum([a * b for a, b in zip(row, column)]) % modulus for column in square]


def is_prime(number):
    """Whether a number from 2 to below 10,000 is a prime."""
    return all([number % divisor for divisor in range(2, 100) if divisor < number])


def is_modulus(value):
    """Whether any value is a prime by which remainders are told."""
    return is_up_to(value, GREATEST_MODULUS) and value >= LEAST_MODULUS and is_prime(value)


def check_kind(ends, rounds, room):
    """Refuse what is no room, no ends' loads, no number of rounds of a web with such ends."""
    check_room(room, FAR_ROOM)
    if not are_up_to(ends, room) or len(ends) > FAR_ENDS:
        raise BadEnds(ends)
    if not is_up_to(rounds, FAR_ROUNDS) or 2 * rounds + len(ends) < 3:
        raise BadRounds(rounds)


def far_count(ends, rounds, room, modulus):
    """The remainder of the number of loads for webs with these ends' loads and rounds."""
    check_kind(ends, rounds, room)
    if not is_modulus(modulus):
        raise BadModulus(modulus)
    row = row_of_ends(room, ends)
    # All tables, so their products too, are the same by rows and by columns.
    square = [times_round(unit_row(room, i), room) for i in range(room + 1)]
    while rounds > 0:
        if rounds % 2:
            row = times_symmetric(row, square, modulus)
        square = [times_symmetric(line, square, modulus) for line in square]
        rounds = rounds // 2
    return row[0] % modulus
