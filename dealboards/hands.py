"""What is told of a hand, which is a list of 13 cards: points, controls, losers, lengths and shape."""

from dealboards.deals import RANKS, SUITS_AS_TOLD

# By rank, from the two up to the ace.
POINTS = (0, 0, 0, 0, 0, 0, 0, 0, 0, 1, 2, 3, 4)
CONTROLS = (0, 0, 0, 0, 0, 0, 0, 0, 0, 0, 0, 1, 2)

# Ace, king, queen. A suit of one card is asked for the first of them, one of two cards for the first two.
WINNING_RANKS = (12, 11, 10)


def worth(hand, worths):
    """The sum of what the hand's cards are worth by their ranks."""
    return sum([worths[card % RANKS] for card in hand])


def ranks_in_suit(hand, suit):
    return [card % RANKS for card in hand if card // RANKS == suit]


def losers_of_suit(ranks):
    """How many losers a suit with these ranks has."""
    asked = WINNING_RANKS[:len(ranks)]
    return len([rank for rank in asked if rank not in ranks])


def features_of(hand):
    """Points, controls, losers, the lengths in spades, hearts, diamonds, clubs, and the shape."""
    suits = [ranks_in_suit(hand, suit) for suit in SUITS_AS_TOLD]
    lengths = [len(ranks) for ranks in suits]
    losers = sum([losers_of_suit(ranks) for ranks in suits])
    return [worth(hand, POINTS), worth(hand, CONTROLS), losers] + lengths + sorted(lengths, reverse=True)
