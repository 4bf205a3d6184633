"""Promises 8 and 9: rotate, suits."""

import itertools
import random
import unittest

from tests.helper import NOTHING, PART, WHOLE, as_text, last, random_part, read, rotate, run, shown, suits, text_of

FOUR = "N:A...? .K..? - ...Q?"


class Rotate(unittest.TestCase):

    def test_each_k(self):
        for k, expected in ((0, FOUR), (1, "N:...Q? A...? .K..? -"), (2, "N:- ...Q? A...? .K..?"),
                            (3, "N:.K..? - ...Q? A...?")):
            answered = run(read(1, FOUR), rotate(1, k), shown(1))
            self.assertEqual(answered[1], [0])
            self.assertEqual(as_text(answered[2]), expected)

    def test_north_goes_to_seat_k(self):
        source = random.Random(9)
        for turn in range(100):
            k = turn % 4
            holders = random_part(source, source.choice((0, 1, 20, 40, 51, 52)))
            turned = {card: (holders[card] + k) % 4 for card in holders}
            self.assertEqual(as_text(last(read(0, text_of(holders)), rotate(0, k), shown(0))), text_of(turned))

    def test_four_times_by_one(self):
        for text in (WHOLE, PART, NOTHING):
            calls = [rotate(0, 1)] * 4
            self.assertEqual(as_text(last(read(0, text), *calls, shown(0))), text)

    def test_refusals(self):
        self.assertEqual(last(rotate(0, 1)), [-2])
        self.assertEqual(last(rotate(0, 0)), [-2])
        for call in (rotate(0, 4), rotate(0, -1), rotate(-1, 0), rotate(16, 0), rotate(0, 10 ** 18)):
            answered = run(call, read(0, FOUR), call, shown(0))
            self.assertEqual([answered[0], answered[2]], [[-1], [-1]])
            self.assertEqual(as_text(answered[3]), FOUR)


class Suits(unittest.TestCase):

    def test_the_row_stays(self):
        for text in (WHOLE, PART, NOTHING):
            self.assertEqual(as_text(last(read(0, text), suits(0, [0, 1, 2, 3]), shown(0))), text)

    def test_where_each_suit_goes(self):
        answered = run(read(0, "N:5.4.3.2? - - -"), suits(0, [1, 2, 3, 0]), shown(0))
        self.assertEqual(answered[1], [0])
        self.assertEqual(as_text(answered[2]), "N:4.3.2.5? - - -")

    def test_every_order(self):
        source = random.Random(10)
        for order in itertools.permutations(range(4)):
            for known in (0, 5, 30, 51, 52):
                holders = random_part(source, known)
                changed = {order[card // 13] * 13 + card % 13: holders[card] for card in holders}
                answered = run(read(0, text_of(holders)), suits(0, list(order)), shown(0))
                self.assertEqual(answered[1], [0])
                self.assertEqual(as_text(answered[2]), text_of(changed))

    def test_a_number_twice(self):
        for numbers in itertools.product(range(4), repeat=4):
            if len(set(numbers)) < 4:
                answered = run(read(0, PART), suits(0, list(numbers)), shown(0))
                self.assertEqual(answered[1], [-6])
                self.assertEqual(as_text(answered[2]), PART)

    def test_out_of_range(self):
        for numbers in ([], [0], [0, 1, 2], [0, 1, 2, 3, 0], [0, 1, 2, 4], [1, 2, 3, 4], [-1, 0, 1, 2], [4, 4, 4, 4],
                        [0, 0, 0, 4], [0, 1, 2, 3] * 75):
            answered = run(suits(0, numbers), read(0, PART), suits(0, numbers), shown(0))
            self.assertEqual([answered[0], answered[2]], [[-1], [-1]])
            self.assertEqual(as_text(answered[3]), PART)
        self.assertEqual(last(suits(-1, [0, 1, 2, 3])), [-1])
        self.assertEqual(last(suits(16, [0, 1, 2, 3])), [-1])

    def test_no_board(self):
        self.assertEqual(last(suits(0, [0, 1, 2, 3])), [-2])
        self.assertEqual(last(suits(0, [0, 0, 0, 0])), [-2])
        self.assertEqual(last(read(1, PART), suits(0, [0, 1, 2, 3])), [-2])


if __name__ == "__main__":
    unittest.main()
