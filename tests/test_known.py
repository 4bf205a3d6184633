"""Promises 13, 14, 16, 17 and 19: know, forget, clear, chance, sure."""

import math
import random
import unittest

from tests.helper import ALL_DEALS, FIRST, NOTHING, PART, SUIT, WHOLE, as_text, chance, clear, count, digits
from tests.helper import fits_by_formula, forget, hand, held_by, know, last, number, random_part, read, run, shown
from tests.helper import sure, text_of

# West's cards are the thirteen that are not known.
THREE_HANDS = f"N:{SUIT}... .{SUIT}.. ..{SUIT}. -"
TWELVE = "N:AKQ.AKQ.AKQ.AKQ? - - -"


class Know(unittest.TestCase):

    def test_a_card_of_each_seat(self):
        answered = run(clear(0), know(0, 0, 0), know(0, 51, 1), know(0, 25, 2), know(0, 26, 3), shown(0))
        self.assertEqual(answered[1:5], [[0]] * 4)
        self.assertEqual(as_text(answered[5]), "N:...2? A...? ..A.? .2..?")

    def test_every_card_and_seat(self):
        for card in range(52):
            for seat in range(4):
                answered = run(clear(0), know(0, card, seat), *[hand(0, other) for other in range(4)])
                self.assertEqual(answered[1], [0])
                self.assertEqual(answered[2:], [[0, card] if other == seat else [0] for other in range(4)])

    def test_known_already(self):
        for seat in range(4):
            for card in (51, 50, 36, 12, 2):
                answered = run(read(0, PART), know(0, card, seat), shown(0))
                self.assertEqual(answered[1], [-5])
                self.assertEqual(as_text(answered[2]), PART)

    def test_known_already_to_be_the_same_seats(self):
        self.assertEqual(run(clear(0), know(0, 7, 2), know(0, 7, 2))[1:], [[0], [-5]])

    def test_a_seats_thirteenth_card(self):
        answered = run(read(0, TWELVE), know(0, 0, 0), shown(0), know(0, 1, 0), know(0, 1, 1), shown(0))
        self.assertEqual(answered[1], [0])
        self.assertEqual(as_text(answered[2]), "N:AKQ.AKQ.AKQ.AKQ2 - - -")
        self.assertEqual(answered[3:5], [[-8], [0]])
        self.assertEqual(as_text(answered[5]), "N:AKQ.AKQ.AKQ.AKQ2 ...3? - -")

    def test_a_seat_with_thirteen_cards(self):
        for seat in range(3):
            answered = run(read(0, THREE_HANDS), know(0, 5, seat), shown(0))
            self.assertEqual(answered[1], [-8])
            self.assertEqual(as_text(answered[2]), THREE_HANDS)

    def test_known_already_comes_before_no_room(self):
        self.assertEqual(last(read(0, THREE_HANDS), know(0, 51, 0)), [-5])
        self.assertEqual(last(read(0, THREE_HANDS), know(0, 51, 1)), [-5])
        for seat in range(4):
            self.assertEqual(last(read(0, WHOLE), know(0, 51, seat)), [-5])

    def test_up_to_a_whole_deal(self):
        calls = [know(0, card, card // 13) for card in range(52)]
        answered = run(clear(0), *calls, number(0), shown(0))
        self.assertEqual(answered[1:53], [[0]] * 52)
        self.assertEqual(answered[53], [0, 0])
        self.assertEqual(as_text(answered[54]), FIRST)

    def test_refusals(self):
        for call in (know(0, 52, 0), know(0, -1, 0), know(0, 0, 4), know(0, 0, -1), know(16, 0, 0), know(-1, 0, 0),
                     know(0, 51, 4), know(0, 10 ** 18, 0), know(0, 0, 10 ** 18)):
            answered = run(call, read(0, PART), call, shown(0))
            self.assertEqual([answered[0], answered[2]], [[-1], [-1]], call)
            self.assertEqual(as_text(answered[3]), PART)
        self.assertEqual(run(know(0, 0, 0), shown(0)), [[-2], [-2]])
        self.assertEqual(last(read(1, PART), know(0, 51, 3)), [-2])


class Forget(unittest.TestCase):

    def test_a_known_card(self):
        answered = run(read(0, PART), forget(0, 50), forget(0, 2), shown(0))
        self.assertEqual(answered[1:3], [[0], [0]])
        self.assertEqual(as_text(answered[3]), "N:A.Q..? - .2.3.? 98765.AKJ43.AK.A")

    def test_a_card_that_is_not_known(self):
        answered = run(read(0, PART), forget(0, 0), forget(0, 50), forget(0, 50), shown(0))
        self.assertEqual(answered[1:4], [[-5], [0], [-5]])
        self.assertEqual(as_text(answered[4]), PART.replace("AK.Q", "A.Q"))
        for card in range(52):
            self.assertEqual(run(clear(0), forget(0, card))[1], [-5])

    def test_a_card_of_a_whole_deal(self):
        answered = run(read(0, WHOLE), forget(0, 51), shown(0), number(0), know(0, 51, 0), shown(0))
        self.assertEqual(answered[1], [0])
        self.assertEqual(as_text(answered[2]), WHOLE.replace("AK.QJT.98765.432", "K.QJT.98765.432?", 1))
        self.assertEqual(answered[3:5], [[-3], [0]])
        self.assertEqual(as_text(answered[5]), WHOLE)

    def test_every_card_of_a_whole_deal(self):
        answered = run(read(0, WHOLE), *[forget(0, card) for card in range(52)], shown(0))
        self.assertEqual(answered[1:53], [[0]] * 52)
        self.assertEqual(as_text(answered[53]), NOTHING)

    def test_a_forgotten_card_may_be_another_seats(self):
        answered = run(read(0, PART), forget(0, 51), know(0, 51, 1), shown(0))
        self.assertEqual(answered[1:3], [[0], [0]])
        self.assertEqual(as_text(answered[3]), "N:K.Q..? A...? .2.3.4? 98765.AKJ43.AK.A")

    def test_refusals(self):
        for call in (forget(0, 52), forget(0, -1), forget(16, 0), forget(-1, 0), forget(0, 10 ** 18)):
            answered = run(call, read(0, WHOLE), call, shown(0))
            self.assertEqual([answered[0], answered[2]], [[-1], [-1]], call)
            self.assertEqual(as_text(answered[3]), WHOLE)
        self.assertEqual(run(forget(0, 0), shown(0)), [[-2], [-2]])
        self.assertEqual(last(read(1, WHOLE), forget(0, 0)), [-2])


class Clear(unittest.TestCase):

    def test_a_board_that_was_not_there(self):
        for b in (0, 7, 15):
            answered = run(clear(b), shown(b), count(b))
            self.assertEqual(answered[0], [0])
            self.assertEqual(as_text(answered[1]), NOTHING)
            self.assertEqual(answered[2], [0] + digits(ALL_DEALS))

    def test_a_board_that_was_there(self):
        for text in (WHOLE, PART, NOTHING):
            answered = run(read(4, text), clear(4), shown(4))
            self.assertEqual(answered[1], [0])
            self.assertEqual(as_text(answered[2]), NOTHING)

    def test_other_boards_stay(self):
        answered = run(read(0, PART), clear(1), clear(2), know(1, 0, 0), shown(0), shown(2), shown(3))
        self.assertEqual([as_text(answered[4]), as_text(answered[5])], [PART, NOTHING])
        self.assertEqual(answered[6], [-2])

    def test_refusals(self):
        for b in (-1, 16, 10 ** 18, -10 ** 18):
            self.assertEqual(last(clear(b)), [-1])


class Chance(unittest.TestCase):

    def test_nothing_known(self):
        for seat in range(4):
            for card in (0, 30, 51):
                self.assertEqual(last(clear(0), chance(0, card, seat)), [0, 1, 4])

    def test_lowest_terms(self):
        part = "N:AK...? Q...? - JT987654.32..?"
        self.assertEqual([last(read(0, part), chance(0, 0, seat)) for seat in range(4)],
                         [[0, 11, 39], [0, 4, 13], [0, 1, 3], [0, 1, 13]])

    def test_no_room(self):
        for seat in range(3):
            self.assertEqual(last(read(0, THREE_HANDS), chance(0, 7, seat)), [0, 0, 1])
        self.assertEqual(last(read(0, PART), chance(0, 0, 3)), [0, 0, 1])

    def test_all_the_room(self):
        self.assertEqual(last(read(0, THREE_HANDS), chance(0, 7, 3)), [0, 1, 1])
        self.assertEqual(last(read(0, WHOLE), forget(0, 51), chance(0, 51, 0)), [0, 1, 1])
        self.assertEqual(last(read(0, WHOLE), forget(0, 51), chance(0, 51, 1)), [0, 0, 1])

    def test_a_known_card(self):
        for text in (WHOLE, "N:A...? - - -", f"N:{SUIT}... - - -"):
            self.assertEqual([last(read(0, text), chance(0, 51, seat)) for seat in range(4)],
                             [[0, 1, 1], [0, 0, 1], [0, 0, 1], [0, 0, 1]])
        self.assertEqual([last(read(0, PART), chance(0, 2, seat)) for seat in range(4)],
                         [[0, 0, 1], [0, 0, 1], [0, 1, 1], [0, 0, 1]])

    def test_it_is_the_part_of_the_fitting_deals(self):
        source = random.Random(41)
        for turn in range(150):
            holders = random_part(source, source.choice((1, 13, 26, 39, 45, 50, 51)))
            card = source.choice([card for card in range(52) if card not in holders])
            answered = run(read(0, text_of(holders)), *[chance(0, card, seat) for seat in range(4)], shown(0))
            for seat, answer in enumerate(answered[1:5]):
                full = len(held_by(holders, seat)) == 13
                part = 0 if full else fits_by_formula({**holders, card: seat})
                whole = fits_by_formula(holders)
                self.assertEqual(answer, [0, part // math.gcd(part, whole), whole // math.gcd(part, whole)])
            self.assertEqual(as_text(answered[5]), text_of(holders))

    def test_refusals(self):
        for call in (chance(0, 52, 0), chance(0, -1, 0), chance(0, 0, 4), chance(0, 0, -1), chance(16, 0, 0),
                     chance(-1, 0, 0), chance(0, 10 ** 18, 0)):
            self.assertEqual(run(call, read(0, PART), call)[::2], [[-1], [-1]], call)
        self.assertEqual(last(chance(0, 0, 0)), [-2])
        self.assertEqual(last(read(1, PART), chance(0, 0, 0)), [-2])


class Sure(unittest.TestCase):

    def becomes(self, text, how_many, expected):
        answered = run(read(8, text), sure(8), shown(8), sure(8), shown(8))
        self.assertEqual(answered[1], [0, how_many], text)
        self.assertEqual(as_text(answered[2]), expected)
        self.assertEqual(answered[3], [0, 0])
        self.assertEqual(as_text(answered[4]), expected)

    def test_one_seat_with_no_card_known(self):
        self.becomes(THREE_HANDS, 13, THREE_HANDS[:-1] + f"...{SUIT}")
        for seat in range(4):
            hands = [f"{SUIT}...", f".{SUIT}..", f"..{SUIT}.", f"...{SUIT}"]
            whole = "N:" + " ".join(hands)
            hands[seat] = "-"
            self.becomes("N:" + " ".join(hands), 13, whole)

    def test_one_seat_with_some_cards_known(self):
        self.becomes(f"N:{SUIT}... .{SUIT}.. ..AK.? ...{SUIT}", 11, f"N:{SUIT}... .{SUIT}.. ..{SUIT}. ...{SUIT}")
        self.becomes(WHOLE.replace("AK.QJT.98765.432", "K.QJT.98765.432?", 1), 1, WHOLE)

    def test_two_seats_or_more(self):
        twelve = SUIT[1:]
        for text in (NOTHING, PART, f"N:{SUIT}... .{SUIT}.. - -", f"N:{SUIT}... .{SUIT}.. ..{twelve}.? ...{twelve}?",
                     f"N:{twelve}...? .{twelve}..? ..{twelve}.? ...{SUIT}"):
            self.becomes(text, 0, text)

    def test_a_whole_deal(self):
        self.becomes(WHOLE, 0, WHOLE)
        self.becomes(FIRST, 0, FIRST)

    def test_behind_forget(self):
        answered = run(read(0, FIRST), forget(0, 3), forget(0, 9), sure(0), forget(0, 3), forget(0, 20), sure(0),
                       shown(0))
        self.assertEqual(answered[3], [0, 2])
        self.assertEqual(answered[6], [0, 0])
        self.assertEqual(as_text(answered[7]), f"N:...{SUIT.replace('5', '')}? ..{SUIT.replace('9', '')}.? "
                         f".{SUIT}.. {SUIT}...")

    def test_refusals(self):
        for b in (-1, 16, 10 ** 18):
            self.assertEqual(last(sure(b)), [-1])
        self.assertEqual(run(sure(0), shown(0)), [[-2], [-2]])
        self.assertEqual(last(read(1, THREE_HANDS), sure(0)), [-2])


if __name__ == "__main__":
    unittest.main()
