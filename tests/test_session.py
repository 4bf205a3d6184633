"""Promise 7: session."""

import random
import unittest

from tests.helper import ALL_DEALS, FIRST, PART, as_text, deal, digits, last, number, read, run, session, shown

STEP = 53 * 59 * 61 * 67 * 71 * 73 * 79 * 83 * 89 * 97 * 101 * 103 * 107


class Session(unittest.TestCase):

    def makes(self, start, i, expected):
        answered = run(session(5, i, digits(start)), number(5))
        self.assertEqual(answered, [[0], [0] + digits(expected)])

    def test_board_0_is_the_start(self):
        for start in (0, 1, 123456789, ALL_DEALS - 1):
            self.makes(start, 0, start)
        self.assertEqual(as_text(last(session(0, 0, [0]), shown(0))), FIRST)

    def test_the_step(self):
        self.makes(0, 1, STEP)
        self.makes(10, 1, STEP + 10)
        self.makes(0, 2, 2 * STEP)

    def test_beyond_all_deals(self):
        self.makes(ALL_DEALS - 1, 1, STEP - 1)
        self.makes(ALL_DEALS - STEP, 1, 0)
        self.makes(ALL_DEALS - STEP - 1, 1, ALL_DEALS - 1)
        turns = ALL_DEALS // STEP
        self.makes(0, turns, turns * STEP)
        self.makes(0, turns + 1, (turns + 1) * STEP - ALL_DEALS)

    def test_the_last_board(self):
        for start in (0, 7, ALL_DEALS - 1):
            self.makes(start, 1000000000, (start + 1000000000 * STEP) % ALL_DEALS)

    def test_many_boards(self):
        source = random.Random(8)
        for turn in range(40):
            start = source.randrange(ALL_DEALS)
            i = source.randrange(1000000001)
            self.makes(start, i, (start + i * STEP) % ALL_DEALS)

    def test_the_same_deal_as_by_its_number(self):
        self.assertEqual(run(session(0, 3, [4]), shown(0))[1], run(deal(0, digits(4 + 3 * STEP)), shown(0))[1])

    def test_no_two_boards_alike(self):
        boards = [tuple(last(session(0, i, [9, 9]), shown(0))) for i in range(64)]
        self.assertEqual(len(set(boards)), 64)

    def test_i_out_of_range(self):
        for i in (-1, 1000000001, 10 ** 18, -10 ** 18):
            self.assertEqual(last(session(0, i, [0])), [-1])
            self.assertEqual(last(session(0, i, [])), [-1])

    def test_no_number(self):
        for told in ([], [0, 0], [0, 5], digits(ALL_DEALS), digits(ALL_DEALS + 1), [1] * 40, [0] * 40):
            self.assertEqual(last(session(0, 0, told)), [-4])
            self.assertEqual(last(session(0, 1000000000, told)), [-4])
        self.assertEqual(last(session(0, 0, digits(ALL_DEALS - 1))), [0])

    def test_digits_and_boards_out_of_range(self):
        for call in (session(0, 0, [10]), session(0, 0, [-1]), session(0, 0, [1, 10]), session(0, 0, [1] * 41),
                     session(-1, 0, [0]), session(16, 0, [0])):
            self.assertEqual(last(call), [-1])

    def test_replaces_the_deal(self):
        self.assertEqual(as_text(last(read(0, PART), session(0, 0, [0]), shown(0))), FIRST)

    def test_a_refusal_changes_nothing(self):
        for call in (session(0, 0, []), session(0, 1, digits(ALL_DEALS)), session(0, -1, [0]), session(0, 0, [10])):
            self.assertEqual(last(call, shown(0)), [-2])
            self.assertEqual(as_text(last(read(0, PART), call, shown(0))), PART)


if __name__ == "__main__":
    unittest.main()
