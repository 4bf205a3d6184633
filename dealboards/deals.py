"""A deal is a list of 52 holders: for each card the seat that has it, or NOBODY if that is not known.

No function here changes a deal that it is handed, so a deal may stand on several boards at once.
"""

SEATS = 4
RANKS = 13
CARDS = 52
HAND_SIZE = 13
NOBODY = 4

# Spades, hearts, diamonds, clubs: the order in which a hand's suits are told.
SUITS_AS_TOLD = (3, 2, 1, 0)


def nothing_known():
    """The deal of which no card is known."""
    return [NOBODY] * CARDS


def card_of(suit, rank):
    """The number of a card."""
    return suit * RANKS + rank


def cards_of(deal, seat):
    """The cards known to be the seat's, rising."""
    return [card for card in range(CARDS) if deal[card] == seat]


def room_of(deal, seat):
    """How many more cards the seat may have."""
    return HAND_SIZE - deal.count(seat)


def rooms_of(deal):
    """The rooms of all seats, north first."""
    return [room_of(deal, seat) for seat in range(SEATS)]


def seats_with_room(deal):
    """The seats of which not all cards are known."""
    return [seat for seat in range(SEATS) if room_of(deal, seat) > 0]


def unknown_cards(deal):
    """How many cards are not known."""
    return deal.count(NOBODY)


def known_cards(deal):
    """How many cards are known."""
    return CARDS - unknown_cards(deal)


def is_whole(deal):
    """Whether every card is known."""
    return NOBODY not in deal


def fits(whole, deal):
    """Whether the whole deal has each card that is known in the other with the same seat."""
    for card in range(CARDS):
        if deal[card] != NOBODY and deal[card] != whole[card]:
            return False
    return True


def rotated(deal, steps):
    """The deal in which each seat's cards have gone so many seats on."""
    return [holder if holder == NOBODY else (holder + steps) % SEATS for holder in deal]


def with_suits(deal, row):
    """The deal in which the cards of suit j are those of suit row[j], rank by rank."""
    changed = nothing_known()
    for card in range(CARDS):
        changed[card_of(row[card // RANKS], card % RANKS)] = deal[card]
    return changed


def with_holder(deal, card, holder):
    """The deal in which this card's holder is another one."""
    changed = list(deal)
    changed[card] = holder
    return changed


def with_rest(deal, seat):
    """The deal in which all cards not known are the seat's."""
    return [seat if holder == NOBODY else holder for holder in deal]


def joined(deal, other):
    """The deal in which just that is known which one or the other tells, or None if there is none."""
    both = list(deal)
    for card in range(CARDS):
        if both[card] == NOBODY:
            both[card] = other[card]
        elif other[card] != NOBODY and other[card] != both[card]:
            return None
    return None if min(rooms_of(both)) < 0 else both
