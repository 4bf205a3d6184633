"""What the tests share: calls written out, answers taken apart, and a plain model of deals."""

import math

from dealboards.boards import answers

ALL_DEALS = 53644737765488792839237440000
SUIT = "AKQJT98765432"
NOTHING = "N:- - - -"
FIRST = f"N:...{SUIT} ..{SUIT}. .{SUIT}.. {SUIT}..."
LAST = f"N:{SUIT}... .{SUIT}.. ..{SUIT}. ...{SUIT}"
WHOLE = "N:AK.QJT.98765.432 QJT.98765.432.AK 98765.432.AK.QJT 432.AK.QJT.98765"
PART = "N:AK.Q..? - .2.3.4? 98765.AKJ43.AK.A"


def text_bytes(text):
    return list(text.encode("latin-1"))


def digits(number):
    return [int(sign) for sign in str(number)]


def row(numbers):
    return [len(numbers)] + list(numbers)


def read(b, text):
    return [0, b] + row(text_bytes(text) if isinstance(text, str) else text)


def shown(b):
    return [1, b]


def count(b):
    return [2, b]


def number(b):
    return [3, b]


def deal(b, told):
    return [4, b] + row(told)


def nth(b, c, told):
    return [5, b, c] + row(told)


def place(b, c):
    return [6, b, c]


def session(b, i, told):
    return [7, b, i] + row(told)


def rotate(b, k):
    return [8, b, k]


def suits(b, numbers):
    return [9, b] + row(numbers)


def hand(b, seat):
    return [10, b, seat]


def features(b, seat):
    return [11, b, seat]


def curtain(b, north, east, south, west):
    return [12, b] + row(north) + row(east) + row(south) + row(west)


def know(b, card, seat):
    return [13, b, card, seat]


def forget(b, card):
    return [14, b, card]


def meet(b, c, d):
    return [15, b, c, d]


def clear(b):
    return [16, b]


def chance(b, card, seat):
    return [17, b, card, seat]


def next_deal(b):
    return [18, b]


def sure(b):
    return [19, b]


def run(*calls):
    """The answers, one list a call."""
    flat = answers([value for call in calls for value in call])
    apart = []
    at = 0
    while at < len(flat):
        apart.append(flat[at + 1:at + 1 + flat[at]])
        at += 1 + flat[at]
    assert at == len(flat) and len(apart) == len(calls), flat
    return apart


def last(*calls):
    return run(*calls)[-1]


def as_text(answer):
    """The text that shown answered."""
    assert answer[0] == 0, answer
    return bytes(answer[1:]).decode("latin-1")


def as_number(answer):
    assert answer[0] == 0 and (answer[1] != 0 or len(answer) == 2), answer
    return int("".join(str(digit) for digit in answer[1:]))


def text_of(holders, first=0):
    """The text of a deal, a dict from cards to seats, with the hand of a seat first."""
    hands = []
    for seat in [(first + turn) % 4 for turn in range(4)]:
        held = held_by(holders, seat)
        parts = []
        for suit in (3, 2, 1, 0):
            ranks = sorted([card % 13 for card in held if card // 13 == suit], reverse=True)
            parts.append("".join("23456789TJQKA"[rank] for rank in ranks))
        mark = "?" if len(held) < 13 else ""
        hands.append(".".join(parts) + mark if held else "-")
    return "NESW"[first] + ":" + " ".join(hands)


def holders_of(text):
    """The deal that a right text tells, as a dict from cards to seats."""
    holders = {}
    first = "NESW".index(text[0])
    for turn, told in enumerate(text[2:].split(" ")):
        for suit, signs in zip((3, 2, 1, 0), told.strip("-?").split(".")):
            for sign in signs:
                holders[suit * 13 + "23456789TJQKA".index(sign)] = (first + turn) % 4
    return holders


def held_by(holders, seat):
    return sorted(card for card in holders if holders[card] == seat)


def fits_by_formula(holders):
    """How many whole deals fit, by the formula in the words."""
    ways = math.factorial(52 - len(holders))
    for seat in range(4):
        ways //= math.factorial(13 - list(holders.values()).count(seat))
    return ways


def place_by_counting(holders, whole):
    """The number of a whole deal among those that fit: for each card the deals before it that part there."""
    told = dict(holders)
    before = 0
    for card in range(52):
        if card in told:
            continue
        for seat in range(whole[card]):
            if list(told.values()).count(seat) < 13:
                before += fits_by_formula({**told, card: seat})
        told[card] = whole[card]
    return before


def random_whole(source):
    seats = [card % 4 for card in range(52)]
    source.shuffle(seats)
    return dict(enumerate(seats))


def random_part(source, known):
    """So many cards of a whole deal."""
    whole = random_whole(source)
    return {card: whole[card] for card in sorted(source.sample(range(52), known))}
