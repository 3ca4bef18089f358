"""How many loads there are, told by the ends' loads, the rounds and the room (section 9)."""

from threeroadcars.checks import GREATEST_ROOM, are_up_to, check_ends, check_room, is_up_to
from threeroadcars.errors import BadEnds, BadModulus, BadNumber, BadRounds
from threeroadcars.loads import can_meet
from threeroadcars.tables import count_of_kind, row_of_kind, times_round, unit_row

MOST_BY_TABLES = 60
MOST_FAR_ENDS = 8
FAR_ROOM = 20
FAR_ENDS = 14
FAR_ROUNDS = 10 ** 18
LEAST_MODULUS = 3
GREATEST_MODULUS = 9973


def count(web, room, ends):
    """How many loads of a web fit a room and have these ends' loads."""
    is_far = web.rounds == 0 and len(web.ends) <= MOST_FAR_ENDS
    check_room(room, GREATEST_ROOM if is_far else MOST_BY_TABLES)
    check_ends(web, room, ends)
    return count_of_kind(room, ends, web.rounds)


def do_meet(room, numbers):
    """Whether three numbers fit at one junction."""
    return can_meet(numbers) and sum(numbers) <= 2 * room


def table(room, number):
    """For each i and j: 1 if three roads that bear number, i and j fit at one junction, else 0."""
    check_room(room, MOST_BY_TABLES)
    if not is_up_to(number, room):
        raise BadNumber(number)
    places = range(room + 1)
    return tuple([
        tuple([1 if do_meet(room, (number, i, j)) else 0 for j in places]) for i in places
    ])


def times_symmetric(row, square, modulus):
    """The remainders of a row multiplied by a square that is the same by rows and by columns."""
    return [sum([a * b for a, b in zip(row, column)]) % modulus for column in square]


def is_prime(number):
    """Whether a number from 2 to below 10,000 is a prime."""
    return all([number % divisor for divisor in range(2, 100) if divisor < number])


def is_modulus(value):
    """Whether any value is a prime by which remainders are told."""
    return is_up_to(value, GREATEST_MODULUS) and value >= LEAST_MODULUS and is_prime(value)


def check_kind(ends, rounds, room):
    """Refuse what is no room, no ends' loads, no number of rounds of a web with such ends."""
    check_room(room, FAR_ROOM)
    if not are_up_to(ends, room) or len(ends) > FAR_ENDS:
        raise BadEnds(ends)
    if not is_up_to(rounds, FAR_ROUNDS) or 2 * rounds + len(ends) < 3:
        raise BadRounds(rounds)


def far_count(ends, rounds, room, modulus):
    """The remainder of the number of loads for webs with these ends' loads and rounds."""
    check_kind(ends, rounds, room)
    if not is_modulus(modulus):
        raise BadModulus(modulus)
    row = row_of_kind(room, ends, 0)
    # All tables, so their products too, are the same by rows and by columns.
    square = [times_round(unit_row(room, i)) for i in range(room + 1)]
    while rounds > 0:
        if rounds % 2:
            row = times_symmetric(row, square, modulus)
        square = [times_symmetric(line, square, modulus) for line in square]
        rounds = rounds // 2
    return row[0] % modulus
