"""Promises 2 to 6: count, number, deal, nth, place."""

import itertools
import random
import unittest

from tests.helper import ALL_DEALS, FIRST, LAST, NOTHING, PART, SUIT, WHOLE, as_number, as_text, count, deal, digits
from tests.helper import fits_by_formula, last, nth, number, place, place_by_counting, random_part, random_whole
from tests.helper import read, run, shown, text_of

WHOLE_NUMBER = 694101202638823242777337361

# One card of each hand is not known: the aces of clubs, diamonds, hearts, spades, in this order by number.
ACES_UNKNOWN = "N:...KQJT98765432? ..KQJT98765432.? .KQJT98765432..? KQJT98765432...?"


class Count(unittest.TestCase):

    def counts(self, text, expected):
        self.assertEqual(last(read(9, text), count(9)), [0] + digits(expected))

    def test_nothing_known(self):
        self.counts(NOTHING, ALL_DEALS)

    def test_everything_known(self):
        self.counts(FIRST, 1)
        self.counts(WHOLE, 1)

    def test_something_between(self):
        self.counts(ACES_UNKNOWN, 24)
        self.counts(f"N:{SUIT}... .{SUIT}.. - -", 10400600)
        self.counts(f"N:{SUIT}... .{SUIT}.. ..{SUIT}. -", 1)
        self.counts(f"N:{SUIT}... .{SUIT}.. ..{SUIT}. ...2?", 1)

    def test_the_formula(self):
        source = random.Random(3)
        for known in range(53):
            holders = random_part(source, known)
            self.counts(text_of(holders), fits_by_formula(holders))

    def test_refusals(self):
        self.assertEqual(last(count(0)), [-2])
        self.assertEqual(last(count(-1)), [-1])
        self.assertEqual(last(count(16)), [-1])


class Number(unittest.TestCase):

    def test_the_first_and_the_last(self):
        self.assertEqual(last(read(0, FIRST), number(0)), [0, 0])
        self.assertEqual(last(read(0, LAST), number(0)), [0] + digits(ALL_DEALS - 1))

    def test_the_next_to_the_first(self):
        clubs_and_diamonds = f"N:...{SUIT} ..{SUIT}. "
        second = clubs_and_diamonds + "2.KQJT98765432.. AKQJT9876543.A.."
        third = clubs_and_diamonds + "3.KQJT98765432.. AKQJT9876542.A.."
        self.assertEqual(last(read(0, second), number(0)), [0, 1])
        self.assertEqual(last(read(0, third), number(0)), [0, 2])

    def test_an_ordinary_deal(self):
        self.assertEqual(last(read(0, WHOLE), number(0)), [0] + digits(WHOLE_NUMBER))

    def test_many_deals(self):
        source = random.Random(4)
        for turn in range(40):
            whole = random_whole(source)
            self.assertEqual(as_number(last(read(0, text_of(whole)), number(0))), place_by_counting({}, whole))

    def test_not_whole(self):
        for text in (NOTHING, PART, f"N:{SUIT}... .{SUIT}.. ..{SUIT}. ...AKQJT9876543?",
                     f"N:{SUIT}... .{SUIT}.. ..{SUIT}. -"):
            self.assertEqual(last(read(0, text), number(0)), [-3])

    def test_refusals(self):
        self.assertEqual(last(number(0)), [-2])
        self.assertEqual(last(number(-1)), [-1])
        self.assertEqual(last(number(16)), [-1])


class Deal(unittest.TestCase):

    def deals(self, told, expected):
        answered = run(deal(6, told), shown(6))
        self.assertEqual(answered[0], [0])
        self.assertEqual(as_text(answered[1]), expected)

    def test_the_first_and_the_last(self):
        self.deals([0], FIRST)
        self.deals(digits(ALL_DEALS - 1), LAST)

    def test_an_ordinary_number(self):
        self.deals(digits(WHOLE_NUMBER), WHOLE)

    def test_number_answers_what_deal_was_handed(self):
        source = random.Random(5)
        for told in [1, 2, 9, 10, ALL_DEALS // 2] + [source.randrange(ALL_DEALS) for turn in range(40)]:
            self.assertEqual(last(deal(0, digits(told)), number(0)), [0] + digits(told))

    def test_no_number(self):
        for told in ([], [0, 0], [0, 1], [0] + digits(ALL_DEALS - 1), [0] * 40):
            self.assertEqual(last(deal(0, told)), [-4])

    def test_the_bound(self):
        self.assertEqual(last(deal(0, digits(ALL_DEALS - 1))), [0])
        self.assertEqual(last(deal(0, digits(ALL_DEALS))), [-4])
        self.assertEqual(last(deal(0, digits(ALL_DEALS + 1))), [-4])

    def test_lengths(self):
        self.assertEqual(last(deal(0, [1] * 40)), [-4])
        self.assertEqual(last(deal(0, [9] * 40)), [-4])
        self.assertEqual(last(deal(0, [1] * 41)), [-1])
        self.assertEqual(last(deal(0, [0] * 300)), [-1])

    def test_digits_out_of_range(self):
        for digit in (10, -1, 10 ** 18, -10 ** 18):
            for told in ([digit], [1, digit], [0, digit], [1] * 39 + [digit]):
                self.assertEqual(last(deal(0, told)), [-1])

    def test_boards_out_of_range(self):
        self.assertEqual(last(deal(-1, [0])), [-1])
        self.assertEqual(last(deal(16, [0])), [-1])
        self.assertEqual(last(deal(15, [0])), [0])

    def test_replaces_the_deal(self):
        self.assertEqual(as_text(last(read(0, PART), deal(0, [0]), shown(0))), FIRST)

    def test_a_refusal_changes_nothing(self):
        for told in ([], [0, 0], digits(ALL_DEALS), [10], [1] * 41):
            self.assertEqual(last(deal(0, told), shown(0)), [-2])
            self.assertEqual(as_text(last(read(0, PART), deal(0, told), shown(0))), PART)


def fits_in_order(holders):
    """All whole deals that fit, in order, made one by one: for few cards not known."""
    unknown = [card for card in range(52) if card not in holders]
    free = []
    for seat in range(4):
        free += [seat] * (13 - list(holders.values()).count(seat))
    orders = sorted(set(itertools.permutations(free)))
    return [{**holders, **dict(zip(unknown, seats))} for seats in orders]


class NthAndPlace(unittest.TestCase):

    def test_every_fit_of_a_deal(self):
        source = random.Random(6)
        for known in (52, 51, 50, 48, 47, 46):
            holders = random_part(source, known)
            whole_deals = fits_in_order(holders)
            text = text_of(holders)
            self.assertEqual(last(read(0, text), count(0)), [0] + digits(len(whole_deals)))
            for at, whole in enumerate(whole_deals):
                answered = run(read(0, text), nth(0, 1, digits(at)), shown(1), place(0, 1), shown(0))
                self.assertEqual(answered[1], [0])
                self.assertEqual(as_text(answered[2]), text_of(whole))
                self.assertEqual(answered[3], [0] + digits(at))
                self.assertEqual(as_text(answered[4]), text)

    def test_the_aces(self):
        for told, north, west in ((0, f"...{SUIT}", f"{SUIT}..."), (23, "A...KQJT98765432", "KQJT98765432...A")):
            hands = as_text(last(read(0, ACES_UNKNOWN), nth(0, 1, digits(told)), shown(1)))[2:].split(" ")
            self.assertEqual((hands[0], hands[3]), (north, west))
        self.assertEqual(last(read(0, ACES_UNKNOWN), nth(0, 1, digits(24))), [-4])

    def test_place_by_counting(self):
        source = random.Random(7)
        for turn in range(40):
            holders = random_part(source, source.randrange(45))
            told = source.randrange(fits_by_formula(holders))
            answered = run(read(3, text_of(holders)), nth(3, 8, digits(told)), place(3, 8), number(8), shown(8))
            self.assertEqual(answered[2], [0] + digits(told))
            whole = holders_of(answered[4])
            self.assertEqual(place_by_counting(holders, whole), told)
            self.assertEqual(as_number(answered[3]), place_by_counting({}, whole))

    def test_nth_of_nothing_known_is_deal(self):
        for told in (0, 1, WHOLE_NUMBER, ALL_DEALS - 1):
            answered = run(read(0, NOTHING), nth(0, 1, digits(told)), shown(1), deal(2, digits(told)), shown(2))
            self.assertEqual(answered[2], answered[4])
        self.assertEqual(last(read(0, NOTHING), nth(0, 1, digits(ALL_DEALS))), [-4])

    def test_c_the_same_as_b(self):
        answered = run(read(0, ACES_UNKNOWN), nth(0, 0, [5]), shown(0), read(1, ACES_UNKNOWN), nth(1, 2, [5]),
                       shown(2), shown(1), place(1, 0), nth(0, 0, [1]), nth(0, 0, [0]), shown(0))
        self.assertEqual(answered[2], answered[5])
        self.assertEqual(as_text(answered[6]), ACES_UNKNOWN)
        self.assertEqual(answered[7], [0, 5])
        self.assertEqual(answered[8:10], [[-4], [0]])
        self.assertEqual(answered[10], answered[2])

    def test_c_is_replaced(self):
        answered = run(read(0, FIRST), read(1, PART), nth(0, 1, [0]), shown(1), shown(0))
        self.assertEqual([as_text(answer) for answer in answered[3:]], [FIRST, FIRST])

    def test_a_whole_deal_fits_itself_alone(self):
        answered = run(read(0, WHOLE), nth(0, 1, [0]), nth(0, 2, [1]), shown(1), shown(2), place(0, 1), place(1, 0))
        self.assertEqual(answered[1:3], [[0], [-4]])
        self.assertEqual(as_text(answered[3]), WHOLE)
        self.assertEqual(answered[4:], [[-2], [0, 0], [0, 0]])

    def test_nth_refusals(self):
        for told in ([], [0, 0], [0, 1], [2, 4], [2, 5], [1] * 40):
            answered = run(read(0, ACES_UNKNOWN), read(1, PART), nth(0, 1, told), shown(1), nth(0, 2, told), shown(2))
            self.assertEqual(answered[2], [-4])
            self.assertEqual(as_text(answered[3]), PART)
            self.assertEqual(answered[5], [-2])
        self.assertEqual(last(read(0, ACES_UNKNOWN), nth(0, 1, [2, 3])), [0])

    def test_nth_no_board(self):
        self.assertEqual(last(nth(0, 1, [0])), [-2])
        self.assertEqual(last(read(1, NOTHING), nth(0, 1, [0])), [-2])
        self.assertEqual(last(nth(0, 1, [])), [-2])

    def test_nth_out_of_range(self):
        for call in (nth(-1, 0, [0]), nth(16, 0, [0]), nth(0, -1, [0]), nth(0, 16, [0]), nth(0, 1, [10]),
                     nth(0, 1, [-1]), nth(0, 1, [0, 10]), nth(0, 1, [1] * 41)):
            self.assertEqual(last(call), [-1])
            self.assertEqual(last(read(0, NOTHING), call), [-1])
        self.assertEqual(last(read(15, FIRST), nth(15, 15, [0])), [0])

    def test_place_refusals_in_order(self):
        self.assertEqual(last(place(0, 1)), [-2])
        self.assertEqual(last(read(1, FIRST), place(0, 1)), [-2])
        self.assertEqual(last(read(0, NOTHING), place(0, 1)), [-2])
        self.assertEqual(last(read(0, FIRST), place(0, 1)), [-2])
        self.assertEqual(last(read(0, NOTHING), read(1, PART), place(0, 1)), [-3])
        self.assertEqual(last(read(0, PART), place(0, 0)), [-3])
        self.assertEqual(last(read(0, FIRST), read(1, PART), place(0, 1)), [-3])
        self.assertEqual(last(read(0, FIRST), read(1, LAST), place(0, 1)), [-5])
        self.assertEqual(last(read(0, "N:A...? - - -"), read(1, FIRST), place(0, 1)), [-5])
        self.assertEqual(last(read(0, "N:- - - A...?"), read(1, FIRST), place(0, 1)), [0, 0])
        self.assertEqual(last(read(0, "N:- ...2? - -"), read(1, FIRST), place(0, 1)), [-5])

    def test_place_out_of_range(self):
        for call in (place(-1, 0), place(16, 0), place(0, -1), place(0, 16), place(-10 ** 18, 10 ** 18)):
            self.assertEqual(last(call), [-1])
            self.assertEqual(last(read(0, FIRST), call), [-1])

    def test_place_changes_nothing(self):
        answered = run(read(0, NOTHING), read(1, WHOLE), place(0, 1), shown(0), shown(1), number(1))
        self.assertEqual([as_text(answered[3]), as_text(answered[4])], [NOTHING, WHOLE])
        self.assertEqual(answered[2], answered[5])


def holders_of(answer):
    """The deal that shown answered, as a dict from cards to seats."""
    whole = {}
    for seat, hand in enumerate(as_text(answer)[2:].split(" ")):
        for suit, ranks in zip((3, 2, 1, 0), hand.split(".")):
            for sign in ranks:
                whole[suit * 13 + "23456789TJQKA".index(sign)] = seat
    return whole


if __name__ == "__main__":
    unittest.main()
