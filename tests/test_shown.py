"""Promise 1: shown."""

import random
import unittest

from tests.helper import FIRST, NOTHING, PART, SUIT, WHOLE, as_text, last, random_part, read, shown, text_of


class Shown(unittest.TestCase):

    def shows(self, text, expected):
        self.assertEqual(as_text(last(read(4, text), shown(4))), expected)

    def test_begins_with_north(self):
        self.shows("N:A...? K...? Q...? J...?", "N:A...? K...? Q...? J...?")
        self.shows("E:A...? K...? Q...? J...?", "N:J...? A...? K...? Q...?")
        self.shows("S:A...? K...? Q...? J...?", "N:Q...? J...? A...? K...?")
        self.shows("W:A...? K...? Q...? J...?", "N:K...? Q...? J...? A...?")

    def test_a_hand_of_which_nothing_is_known(self):
        self.shows(NOTHING, NOTHING)
        self.shows("N:...? - ...? ...2?", "N:- - - ...2?")

    def test_a_mark_only_with_fewer_than_thirteen_cards(self):
        self.shows(f"N:{SUIT}... .AKQJT9876543..? - ..2.?", f"N:{SUIT}... .AKQJT9876543..? - ..2.?")
        for text in (FIRST, WHOLE, PART):
            self.shows(text, text)

    def test_suits_from_spades_down(self):
        self.shows("W:- AK.QJ.T9.87? - -", "N:AK.QJ.T9.87? - - -")

    def test_the_bytes(self):
        self.assertEqual(last(read(0, NOTHING), shown(0)), [0, 78, 58, 45, 32, 45, 32, 45, 32, 45])

    def test_many_deals(self):
        source = random.Random(2)
        for turn in range(300):
            holders = random_part(source, source.randrange(53))
            self.shows(text_of(holders, source.randrange(4)), text_of(holders))

    def test_no_board(self):
        self.assertEqual(last(shown(0)), [-2])
        self.assertEqual(last(read(1, NOTHING), shown(0)), [-2])

    def test_out_of_range(self):
        for b in (-1, 16, 10 ** 18):
            self.assertEqual(last(shown(b)), [-1])


if __name__ == "__main__":
    unittest.main()
