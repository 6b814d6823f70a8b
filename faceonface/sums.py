"""Sums of numbers bit by bit, two alike bits coming to nothing: laying over one another, reckoned with numbers."""


def is_odd(number):
    """Whether a number from 0 on has an odd number of bits that are 1."""
    return f"{number:b}".count("1") % 2 == 1


def reduced(rows, number):
    """A number less what the rows take from it: 0 just where it is a sum of some of them.

    Each row must be free of the highest bits of those ahead of it.
    """
    for row in rows:
        # The lesser of the two is the one without the row's highest bit.
        number = min(number, number ^ row)
    return number


def stairs(numbers):
    """Rows with the same sums as the numbers, each free of the highest bits of those ahead of it."""
    rows = []
    for number in numbers:
        rest = reduced(rows, number)
        if rest:
            rows.append(rest)
    return rows


def plain_rows(numbers):
    """The rows with the same sums as the numbers, each free of the others' highest bits, the greatest first."""
    rows = []
    for row in sorted(stairs(numbers)):
        rows.append(reduced(rows, row))
    return rows[::-1]


def fresh(rows, numbers):
    """The places of the numbers that are no sum of some of the rows and of the numbers ahead of them."""
    known = stairs(rows)
    places = []
    for at, number in enumerate(numbers):
        rest = reduced(known, number)
        if rest:
            known.append(rest)
            places.append(at)
    return places


def vanishing(pairs, size):
    """The plain rows of what the pairs' second numbers, of so many bits, come to where the first ones come to 0."""
    rows = plain_rows([(first << size) | second for first, second in pairs])
    return [row for row in rows if row >> size == 0]


def evens(rows, size):
    """The plain rows of the numbers, of so many bits, that have an even number of bits in common with each row."""
    pairs = []
    for at in range(size):
        met_by = 0
        for row in rows:
            met_by = (met_by << 1) | ((row >> at) & 1)
        pairs.append((met_by, 1 << at))
    return vanishing(pairs, size)


def between(rows, number):
    """A number with an even number of bits in common with each of the plain rows and an odd one with this number.

    The number must be no sum of the rows.
    """
    first = reduced(rows, number).bit_length() - 1
    told = 1 << first
    for row in rows:
        # A row that has this bit is made even by its own highest one, which the others and the rest have not.
        if (row >> first) & 1:
            told |= 1 << (row.bit_length() - 1)
    return told


def made_of(numbers, wanted):
    """The places of numbers whose sum is the wanted one, which is such a sum; no more than the rows they come to."""
    size = len(numbers)
    rows = []
    for at, number in enumerate(numbers):
        # The low bits keep of which numbers a row is the sum.
        rest = reduced(rows, (number << size) | (1 << at))
        if rest >> size:
            rows.append(rest)
    kept = reduced(rows, wanted << size)
    return [at for at in range(size) if (kept >> at) & 1]


def sum_at(numbers, bits):
    """The sum of the numbers at the places where a bit is 1, the lowest bit standing for the first place."""
    total = 0
    for at, number in enumerate(numbers):
        if (bits >> at) & 1:
            total ^= number
    return total


def product(one, other):
    """Each row of the one a sum of rows of the other, at the places where its bits are 1."""
    return [sum_at(other, row) for row in one]


def power(rows, number):
    """The product of so many times the same rows; there are as many of them as they have bits."""
    told = [1 << at for at in range(len(rows))]
    while number:
        if number & 1:
            told = product(told, rows)
        rows = product(rows, rows)
        number >>= 1
    return told


def inverse(rows):
    """The rows that lead back: their product with these has in each row a 1 at its own place alone; None if none do."""
    size = len(rows)
    plain = plain_rows([(row << size) | (1 << at) for at, row in enumerate(rows)])
    if plain[-1] >> size == 0:
        return None
    # All high bits are plain now, the last row's the lowest; the low bits say of which rows they are the sum.
    return [row & ((1 << size) - 1) for row in plain[::-1]]
