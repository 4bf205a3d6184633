"""Promise 18: next."""

import random
import unittest

from tests.helper import ALL_DEALS, FIRST, LAST, NOTHING, PART, SUIT, WHOLE, as_number, as_text, deal, digits, forget
from tests.helper import last, next_deal, number, random_whole, read, run, shown, text_of

SECOND = f"N:...{SUIT} ..{SUIT}. 2.KQJT98765432.. AKQJT9876543.A.."
LAST_BUT_ONE = f"N:AKQJT9876543.A.. 2.KQJT98765432.. ..{SUIT}. ...{SUIT}"


def next_row(seats):
    """The row of seats that comes behind this one, by exchange: of the same seats, none is between."""
    at = max(card for card in range(51) if seats[card] < seats[card + 1])
    higher = max(card for card in range(52) if card > at and seats[card] > seats[at])
    changed = list(seats)
    changed[at], changed[higher] = changed[higher], changed[at]
    return changed[:at + 1] + changed[:at:-1]


class Next(unittest.TestCase):

    def test_the_deal_with_the_number_0(self):
        answered = run(read(0, FIRST), next_deal(0), number(0), shown(0))
        self.assertEqual(answered[1:3], [[0], [0, 1]])
        self.assertEqual(as_text(answered[3]), SECOND)

    def test_the_last_and_the_one_before_it(self):
        answered = run(deal(0, digits(ALL_DEALS - 2)), shown(0), next_deal(0), shown(0), number(0), next_deal(0),
                       shown(0))
        self.assertEqual(as_text(answered[1]), LAST_BUT_ONE)
        self.assertEqual(answered[2], [0])
        self.assertEqual(as_text(answered[3]), LAST)
        self.assertEqual(answered[4], [0] + digits(ALL_DEALS - 1))
        self.assertEqual(answered[5], [-4])
        self.assertEqual(as_text(answered[6]), LAST)

    def test_the_last_as_a_text(self):
        self.assertEqual(last(read(0, LAST), next_deal(0)), [-4])

    def test_with_number(self):
        source = random.Random(61)
        for turn in range(40):
            start = source.choice((source.randrange(ALL_DEALS - 1), source.randrange(1000)))
            answered = run(deal(2, digits(start)), next_deal(2), number(2))
            self.assertEqual(answered[1], [0])
            self.assertEqual(as_number(answered[2]), start + 1)

    def test_where_many_digits_change(self):
        for start in (9, 99, 10 ** 28 - 1, 5 * 10 ** 28 - 1):
            self.assertEqual(last(deal(0, digits(start)), next_deal(0), number(0)), [0] + digits(start + 1))

    def test_no_deal_lies_between(self):
        source = random.Random(62)
        for turn in range(40):
            whole = random_whole(source)
            seats = [whole[card] for card in range(52)]
            if turn % 4 == 0:
                seats = seats[:30] + sorted(seats[30:], reverse=True)
            behind = text_of(dict(enumerate(next_row(seats))))
            answered = run(read(0, text_of(dict(enumerate(seats)))), next_deal(0), shown(0))
            self.assertEqual(as_text(answered[2]), behind)

    def test_many_times(self):
        answered = run(deal(0, [0]), *[next_deal(0)] * 300, number(0))
        self.assertEqual(answered[1:301], [[0]] * 300)
        self.assertEqual(answered[301], [0, 3, 0, 0])

    def test_not_whole(self):
        for text in (NOTHING, PART, f"N:{SUIT}... .{SUIT}.. ..{SUIT}. -"):
            answered = run(read(0, text), next_deal(0), shown(0))
            self.assertEqual(answered[1], [-3])
            self.assertEqual(as_text(answered[2]), text)

    def test_not_whole_though_what_is_known_is_the_last(self):
        self.assertEqual(last(read(0, LAST), forget(0, 51), next_deal(0)), [-3])
        self.assertEqual(last(read(0, LAST), forget(0, 0), next_deal(0)), [-3])

    def test_other_boards_stay(self):
        answered = run(read(0, WHOLE), read(1, WHOLE), next_deal(0), shown(1), shown(0))
        self.assertEqual(as_text(answered[3]), WHOLE)
        self.assertNotEqual(as_text(answered[4]), WHOLE)

    def test_refusals(self):
        for b in (-1, 16, 10 ** 18):
            self.assertEqual(last(next_deal(b)), [-1])
        self.assertEqual(run(next_deal(0), shown(0)), [[-2], [-2]])
        self.assertEqual(last(read(1, WHOLE), next_deal(0)), [-2])


if __name__ == "__main__":
    unittest.main()
