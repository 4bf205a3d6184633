"""Deals as texts, which are lists of bytes: a text gone through byte by byte, and the text of a deal."""

from dealboards.deals import HAND_SIZE, NOBODY, RANKS, SEATS, SUITS_AS_TOLD
from dealboards.deals import card_of, nothing_known, room_of

SEAT_SIGNS = "NESW"
RANK_SIGNS = "23456789TJQKA"
CLUBS = 0

CANNOT_GO_ON = 1
RANK_NOT_BELOW = 2
CARD_TOLD_BEFORE = 3
FOURTEENTH_CARD = 4
MARK_MISSING = 5
MARK_TOO_MUCH = 6


class TextFault(Exception):
    """The first thing that is wrong in a text: its kind, from 1 to 6, and its place."""

    def __init__(self, kind, place):
        self.kind = kind
        self.place = place


class TextReader:
    """A text, the place up to which it was read, and the deal it has told so far."""

    def __init__(self, text):
        self.text = text
        self.at = 0
        self.deal = nothing_known()

    def stands_here(self, sign):
        return self.at < len(self.text) and self.text[self.at] == ord(sign)

    def rank_here(self):
        """The rank that stands at this place, or None."""
        for rank, sign in enumerate(RANK_SIGNS):
            if self.stands_here(sign):
                return rank
        return None

    def step_over(self, sign):
        if not self.stands_here(sign):
            raise TextFault(CANNOT_GO_ON, self.at)
        self.at += 1

    def take_seat(self):
        for seat, sign in enumerate(SEAT_SIGNS):
            if self.stands_here(sign):
                self.at += 1
                return seat
        raise TextFault(CANNOT_GO_ON, self.at)

    def take_hand(self, seat):
        if self.stands_here("-"):
            self.at += 1
        else:
            for suit in SUITS_AS_TOLD:
                self.take_suit(seat, suit)
                if suit != CLUBS:
                    self.step_over(".")
            self.take_mark(seat)

    def take_suit(self, seat, suit):
        bound = RANKS
        rank = self.rank_here()
        while rank is not None:
            if rank >= bound:
                raise TextFault(RANK_NOT_BELOW, self.at)
            self.take_card(seat, card_of(suit, rank))
            bound = rank
            rank = self.rank_here()

    def take_card(self, seat, card):
        if self.deal[card] != NOBODY:
            raise TextFault(CARD_TOLD_BEFORE, self.at)
        if room_of(self.deal, seat) == 0:
            raise TextFault(FOURTEENTH_CARD, self.at)
        self.deal[card] = seat
        self.at += 1

    def take_mark(self, seat):
        marked = self.stands_here("?")
        full = room_of(self.deal, seat) == 0
        if full and marked:
            raise TextFault(MARK_TOO_MUCH, self.at)
        if not full and not marked:
            raise TextFault(MARK_MISSING, self.at)
        if marked:
            self.at += 1

    def take_end(self):
        if self.at < len(self.text):
            raise TextFault(CANNOT_GO_ON, self.at)


def deal_from_text(text):
    """The deal that the text tells; raises TextFault if it tells none."""
    reader = TextReader(text)
    first = reader.take_seat()
    reader.step_over(":")
    for turn in range(SEATS):
        if turn > 0:
            reader.step_over(" ")
        reader.take_hand((first + turn) % SEATS)
    reader.take_end()
    return reader.deal


def suit_signs(deal, seat, suit):
    ranks = [rank for rank in range(RANKS - 1, -1, -1) if deal[card_of(suit, rank)] == seat]
    return "".join([RANK_SIGNS[rank] for rank in ranks])


def hand_signs(deal, seat):
    room = room_of(deal, seat)
    if room == HAND_SIZE:
        return "-"
    mark = "?" if room > 0 else ""
    return ".".join([suit_signs(deal, seat, suit) for suit in SUITS_AS_TOLD]) + mark


def text_of_deal(deal):
    """The bytes of the text of a deal."""
    hands = " ".join([hand_signs(deal, seat) for seat in range(SEATS)])
    return [ord(sign) for sign in "N:" + hands]
