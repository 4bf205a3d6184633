"""Promise 12: curtain."""

import random
import unittest

from tests.helper import FIRST, NOTHING, PART, WHOLE, as_text, curtain, forget, held_by, holders_of, last, random_whole
from tests.helper import read, run, shown, text_of

CLUBS = list(range(13))
DIAMONDS = list(range(13, 26))
HEARTS = list(range(26, 39))
SPADES = list(range(39, 52))
ALL_CARDS = list(range(52))


class Curtain(unittest.TestCase):
    """In the deal FIRST north has the clubs, east the diamonds, south the hearts, west the spades."""

    def finds(self, rows, expected):
        self.assertEqual(last(read(3, FIRST), curtain(3, *rows)), [0] + expected)

    def test_all_found_where_they_belong(self):
        self.finds((CLUBS, DIAMONDS, HEARTS, SPADES), [0] * 8)
        self.finds((CLUBS[::-1], DIAMONDS[::-1], HEARTS[::-1], SPADES[::-1]), [0] * 8)

    def test_nothing_found(self):
        self.finds(([], [], [], []), [13] + CLUBS + [0, 13] + DIAMONDS + [0, 13] + HEARTS + [0, 13] + SPADES + [0])

    def test_one_card_in_another_pocket(self):
        self.finds((CLUBS[1:], [0] + DIAMONDS, HEARTS, SPADES), [1, 0, 0, 0, 1, 0, 0, 0, 0, 0])
        self.finds((CLUBS + [51], DIAMONDS, HEARTS, SPADES[:-1]), [0, 1, 51, 0, 0, 0, 0, 1, 51, 0])

    def test_the_order_of_the_lists(self):
        rows = (CLUBS[2:] + [13], DIAMONDS[3:] + [26, 27], HEARTS[4:] + [39], SPADES[1:] + [0, 1, 2])
        self.finds(rows, [2, 0, 1, 1, 13, 3, 13, 14, 15, 2, 26, 27, 4, 26, 27, 28, 29, 1, 39, 1, 39, 3, 0, 1, 2])

    def test_each_list_rises(self):
        rows = ([51, 3, 40, 1, 13, 39], [25, 0, 51, 12], [50, 4, 49, 5], [6, 26, 5, 45])
        self.finds(rows, [11, 0, 2, 4, 5, 6, 7, 8, 9, 10, 11, 12, 4, 13, 39, 40, 51] + [12] + DIAMONDS[:-1]
                   + [3, 0, 12, 51] + [13] + HEARTS + [4, 4, 5, 49, 50]
                   + [12] + SPADES[:6] + SPADES[7:] + [3, 5, 6, 26])

    def test_the_rows_stand_for_north_east_south_west(self):
        answer = last(read(0, WHOLE), curtain(0, *[held_by(holders_of(WHOLE), seat) for seat in range(4)]))
        self.assertEqual(answer, [0] * 9)
        turned = last(read(0, FIRST), curtain(0, SPADES, CLUBS, DIAMONDS, HEARTS))
        self.assertEqual(turned, [0, 13] + CLUBS + [13] + SPADES + [13] + DIAMONDS + [13] + CLUBS
                         + [13] + HEARTS + [13] + DIAMONDS + [13] + SPADES + [13] + HEARTS)

    def test_fifty_two_cards_in_a_row(self):
        self.finds((ALL_CARDS, [], [], []), [0, 39] + ALL_CARDS[13:] + [13] + DIAMONDS + [0, 13] + HEARTS
                   + [0, 13] + SPADES + [0])
        self.finds((ALL_CARDS[::-1], ALL_CARDS, ALL_CARDS, ALL_CARDS), [0, 39] + ALL_CARDS[13:] + [0, 39] + CLUBS
                   + HEARTS + SPADES + [0, 39] + CLUBS + DIAMONDS + SPADES + [0, 39] + CLUBS + DIAMONDS + HEARTS)

    def test_one_card_in_two_rows(self):
        self.finds((CLUBS, DIAMONDS + [0], HEARTS + [0], SPADES), [0, 0, 0, 1, 0, 0, 1, 0, 0, 0])

    def test_a_card_twice_in_one_row(self):
        for place in range(4):
            for twice in ([0, 0], [51, 3, 51], CLUBS + [12], ALL_CARDS[:51] + [50]):
                rows = [CLUBS, DIAMONDS, HEARTS, SPADES]
                rows[place] = twice
                answered = run(read(0, FIRST), curtain(0, *rows), shown(0))
                self.assertEqual(answered[1], [-7], rows)
                self.assertEqual(as_text(answered[2]), FIRST)

    def test_not_whole_comes_first(self):
        for rows in (([], [], [], []), ([0, 0], [], [], []), (CLUBS, DIAMONDS, HEARTS, SPADES)):
            for text in (NOTHING, PART):
                self.assertEqual(last(read(0, text), curtain(0, *rows)), [-3])
            self.assertEqual(last(read(0, FIRST), forget(0, 51), curtain(0, *rows)), [-3])

    def test_out_of_range(self):
        for place in range(4):
            for wrong in ([52], [-1], CLUBS + [52], [-1] + CLUBS, ALL_CARDS + [0], ALL_CARDS + [51], [0] * 53,
                          [0] * 300, [10 ** 18], [-10 ** 18], ALL_CARDS[1:] + [52]):
                rows = [[], [7, 7], [], []]
                rows[place] = wrong
                call = curtain(0, *rows)
                self.assertEqual(run(call, read(0, FIRST), call, read(0, PART), call)[::2], [[-1]] * 3, rows)
        for b in (-1, 16):
            self.assertEqual(last(read(0, FIRST), curtain(b, [], [], [], [])), [-1])

    def test_no_board(self):
        self.assertEqual(last(curtain(0, [], [], [], [])), [-2])
        self.assertEqual(last(curtain(0, [0, 0], [], [], [])), [-2])
        self.assertEqual(last(read(1, FIRST), curtain(0, [], [], [], [])), [-2])

    def test_many_pockets(self):
        source = random.Random(31)
        for turn in range(200):
            whole = random_whole(source)
            rows = [source.sample(range(52), source.choice((0, 1, 12, 13, 14, 52))) for seat in range(4)]
            if turn % 2:
                rows = [held_by(whole, seat)[source.randrange(3):] for seat in range(4)]
            expected = [0]
            for seat in range(4):
                missing = sorted(set(held_by(whole, seat)) - set(rows[seat]))
                strange = sorted(set(rows[seat]) - set(held_by(whole, seat)))
                expected += [len(missing)] + missing + [len(strange)] + strange
            answered = run(read(0, text_of(whole)), curtain(0, *rows), shown(0))
            self.assertEqual(answered[1], expected)
            self.assertEqual(as_text(answered[2]), text_of(whole))


if __name__ == "__main__":
    unittest.main()
