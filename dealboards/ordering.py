"""The whole deals that fit a deal, counted and numbered; and numbers told as digits."""

from dealboards.deals import CARDS, NOBODY, nothing_known, rooms_of

SESSION_PRIMES = (53, 59, 61, 67, 71, 73, 79, 83, 89, 97, 101, 103, 107)


def factorial(number):
    """The product of the whole numbers from 1 up to this one."""
    product = 1
    for factor in range(2, number + 1):
        product *= factor
    return product


def ways_to_fill(rooms):
    """In how many ways as many cards as there is room for can be given to the seats."""
    ways = factorial(sum(rooms))
    for room in rooms:
        ways //= factorial(room)
    return ways


def count_of_fits(deal):
    """How many whole deals fit the deal."""
    return ways_to_fill(rooms_of(deal))


def count_of_all():
    """How many whole deals there are."""
    return count_of_fits(nothing_known())


def place_among_fits(deal, whole):
    """The number of a whole deal, which fits the deal, among all that fit it."""
    rooms = rooms_of(deal)
    ways = ways_to_fill(rooms)
    place = 0
    for card in range(CARDS):
        if deal[card] == NOBODY:
            # Of the ways left, the part that gives this card to a seat is as the seat's room
            # to all the room, so each division below comes out even.
            unknown = sum(rooms)
            seat = whole[card]
            for lower in range(seat):
                place += ways * rooms[lower] // unknown
            ways = ways * rooms[seat] // unknown
            rooms[seat] -= 1
    return place


def fit_with_place(deal, place):
    """The whole deal with this number among all that fit the deal; the number is below their count."""
    whole = list(deal)
    rooms = rooms_of(deal)
    ways = ways_to_fill(rooms)
    rest = place
    for card in range(CARDS):
        if deal[card] == NOBODY:
            unknown = sum(rooms)
            seat = 0
            share = ways * rooms[seat] // unknown
            while rest >= share:
                rest -= share
                seat += 1
                share = ways * rooms[seat] // unknown
            whole[card] = seat
            ways = share
            rooms[seat] -= 1
    return whole


def session_number(start, board):
    """The number of a board, counted from 0, of the session with this start."""
    step = 1
    for prime in SESSION_PRIMES:
        step *= prime
    return (start + board * step) % count_of_all()


def digits_of(number):
    """The decimal digits of a number that is not below 0, the first one first."""
    return [int(sign) for sign in str(number)]


def number_below(digits, bound):
    """The number that the digits tell, or None if they tell none or one that is not below the bound."""
    if len(digits) == 0 or (digits[0] == 0 and len(digits) > 1):
        return None
    number = 0
    for digit in digits:
        number = number * 10 + digit
    return number if number < bound else None
