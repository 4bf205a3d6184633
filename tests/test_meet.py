"""Promise 15: meet."""

import random
import unittest

from tests.helper import FIRST, NOTHING, PART, SUIT, WHOLE, as_text, clear, forget, held_by, know, last, meet
from tests.helper import random_part, random_whole, read, run, shown, text_of

ONE = "N:AK...? .A..? - -"
OTHER = "N:A...? .K..? ..A.? -"
BOTH = "N:AK...? .AK..? ..A.? -"


class Meet(unittest.TestCase):

    def boards_behind(self, d):
        """What boards 1 and 2, then board d, show behind the call meet(1, 2, d)."""
        answered = run(read(1, ONE), read(2, OTHER), read(4, WHOLE), meet(1, 2, d), shown(1), shown(2), shown(4),
                       shown(d))
        self.assertEqual(answered[3], [0])
        return [as_text(answer) for answer in answered[4:]]

    def test_d_is_a_board_that_was_not_there(self):
        self.assertEqual(self.boards_behind(9), [ONE, OTHER, WHOLE, BOTH])

    def test_d_is_another_board(self):
        self.assertEqual(self.boards_behind(4), [ONE, OTHER, BOTH, BOTH])

    def test_d_is_b(self):
        self.assertEqual(self.boards_behind(1), [BOTH, OTHER, WHOLE, BOTH])

    def test_d_is_c(self):
        self.assertEqual(self.boards_behind(2), [ONE, BOTH, WHOLE, BOTH])

    def test_b_is_c(self):
        for text in (NOTHING, PART, WHOLE):
            for d in (3, 5):
                answered = run(read(3, text), meet(3, 3, d), shown(d), shown(3))
                self.assertEqual(answered[1], [0])
                self.assertEqual([as_text(answer) for answer in answered[2:]], [text, text])

    def test_nothing_known_in_one(self):
        for text in (NOTHING, PART, WHOLE):
            self.assertEqual(as_text(last(read(0, text), clear(1), meet(0, 1, 2), shown(2))), text)
            self.assertEqual(as_text(last(read(0, text), clear(1), meet(1, 0, 2), shown(2))), text)

    def test_what_comes_of_it_goes_its_own_way(self):
        answered = run(read(0, PART), clear(1), meet(0, 1, 2), meet(1, 1, 3), know(2, 0, 1), forget(2, 51),
                       know(3, 0, 0), shown(0), shown(1), meet(0, 0, 0), forget(0, 51), shown(2))
        self.assertEqual([as_text(answered[7]), as_text(answered[8])], [PART, NOTHING])
        self.assertEqual(as_text(answered[11]), PART.replace("AK.Q", "K.Q").replace(" - ", " ...2? "))

    def refused(self, one, other, d=9):
        for b, c in ((0, 1), (1, 0)):
            answered = run(read(0, one), read(1, other), meet(b, c, d), shown(0), shown(1), shown(9))
            self.assertEqual(answered[2], [-5], (one, other))
            self.assertEqual([as_text(answered[3]), as_text(answered[4])], [one, other])
            self.assertEqual(answered[5], [-2])

    def test_unlike_seats_of_a_card(self):
        for d in (0, 1, 9):
            self.refused("N:A...? - - -", "N:- A...? - -", d)
            self.refused("N:...2? - - -", "N:- - - ...2?", d)
        self.refused(WHOLE, FIRST)
        self.refused("N:.K.5.? - Q...? -", "N:.K..? ..5.? Q...? -")

    def test_each_card_and_pair_of_seats(self):
        for card in range(52):
            for seat in range(4):
                for other in range(4):
                    answered = run(clear(0), clear(1), know(0, card, seat), know(1, card, other), meet(0, 1, 2))
                    self.assertEqual(answered[4], [0] if seat == other else [-5])

    def test_more_than_thirteen_cards_together(self):
        for d in (0, 1, 9):
            self.refused(f"N:{SUIT}... - - -", "N:.A..? - - -", d)
        for seat in "NESW":
            seven = read(0, f"{seat}:AKQJT98...? - - -")
            thirteen = run(seven, read(1, f"{seat}:.AKQJT9..? - - -"), meet(0, 1, 2), shown(2))
            self.assertEqual(thirteen[2], [0])
            self.assertNotIn("?", as_text(thirteen[3]))
            fourteen = run(seven, read(1, f"{seat}:.AKQJT98..? - - -"), meet(0, 1, 2))
            self.assertEqual(fourteen[2], [-5])
        self.refused(f"N:{SUIT}... .{SUIT}.. - -", f"N:{SUIT}... .KQ.A.? ..KQ.? ...A?")

    def test_thirteen_cards_told_by_both(self):
        self.assertEqual(last(read(0, WHOLE), read(1, WHOLE), meet(0, 1, 2)), [0])
        self.assertEqual(last(read(0, PART), read(1, PART), meet(0, 1, 2)), [0])

    def test_parts_of_one_deal(self):
        source = random.Random(51)
        for turn in range(100):
            whole = random_whole(source)
            parts = []
            for known in (source.randrange(53), source.randrange(53)):
                parts.append({card: whole[card] for card in source.sample(range(52), known)})
            answered = run(read(0, text_of(parts[0])), read(1, text_of(parts[1])), meet(0, 1, 2), shown(2))
            self.assertEqual(answered[2], [0])
            self.assertEqual(as_text(answered[3]), text_of({**parts[0], **parts[1]}))

    def test_parts_of_two_deals(self):
        source = random.Random(52)
        kinds = {}
        for turn in range(400):
            one, other = random_part(source, source.randrange(30)), random_part(source, source.randrange(8))
            if turn % 4 == 0:
                seat = source.randrange(4)
                cards = source.sample(range(52), 16)
                one = {card: seat for card in cards[:9]}
                other = {card: seat for card in cards[source.choice((5, 9)):source.choice((13, 14))]}
            unlike = any(one[card] != other[card] for card in one if card in other)
            both = {**one, **other}
            too_many = max(len(held_by(both, seat)) for seat in range(4)) > 13
            answered = run(read(0, text_of(one)), read(1, text_of(other)), meet(0, 1, 1), shown(1))
            self.assertEqual(answered[2], [-5] if unlike or too_many else [0])
            self.assertEqual(as_text(answered[3]), text_of(other if unlike or too_many else both))
            kinds[(unlike, too_many)] = True
        self.assertGreaterEqual(len(kinds), 3)

    def test_no_board(self):
        self.assertEqual(last(meet(0, 1, 2)), [-2])
        self.assertEqual(last(meet(0, 0, 0)), [-2])
        self.assertEqual(run(read(1, PART), meet(0, 1, 2), shown(2), shown(0)), [[0, 0, 19], [-2], [-2], [-2]])
        self.assertEqual(run(read(0, PART), meet(0, 1, 2), shown(2), shown(1)), [[0, 0, 19], [-2], [-2], [-2]])
        self.assertEqual(as_text(last(read(0, PART), meet(0, 1, 0), shown(0))), PART)
        self.assertEqual(last(read(2, PART), meet(0, 1, 2)), [-2])

    def test_out_of_range(self):
        for wrong in (-1, 16, 10 ** 18, -10 ** 18):
            for call in (meet(wrong, 0, 0), meet(0, wrong, 0), meet(0, 0, wrong), meet(0, 9, wrong)):
                self.assertEqual(run(call, read(0, PART), call)[::2], [[-1], [-1]], call)


if __name__ == "__main__":
    unittest.main()
