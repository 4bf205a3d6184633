"""Chances, told by two numbers in lowest terms."""

from dealboards.deals import NOBODY, room_of, unknown_cards


def greatest_divisor(first, second):
    """The greatest common divisor of two numbers of which at least one is above 0."""
    larger = first
    smaller = second
    while smaller > 0:
        rest = larger % smaller
        larger = smaller
        smaller = rest
    return larger


def chance_of(deal, card, seat):
    """The chance that the card is with the seat."""
    if deal[card] == seat:
        return [1, 1]
    if deal[card] != NOBODY:
        return [0, 1]
    room = room_of(deal, seat)
    unknown = unknown_cards(deal)
    divisor = greatest_divisor(room, unknown)
    return [room // divisor, unknown // divisor]
