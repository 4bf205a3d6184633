"""Promise 0: read."""

import random
import unittest

from tests.helper import FIRST, NOTHING, PART, SUIT, WHOLE, as_text, last, random_part, read, run, shown, text_bytes
from tests.helper import text_of


class RightTexts(unittest.TestCase):

    def test_how_many_cards_are_known(self):
        for text, known in ((NOTHING, 0), (FIRST, 52), (WHOLE, 52), (PART, 19), ("N:...? - ...2? -", 1),
                            (f"W:{SUIT}... - - -", 13), (f"S:- - - {SUIT}...", 13)):
            self.assertEqual(last(read(3, text)), [0, 0, known], text)

    def test_each_seat_first(self):
        hands = ["AK...?", ".QJ..?", "..T9.?", "...87?"]
        for first, sign in enumerate("NESW"):
            turned = [hands[(first + turn) % 4] for turn in range(4)]
            answered = run(read(0, sign + ":" + " ".join(turned)), shown(0))
            self.assertEqual(answered[0], [0, 0, 8])
            self.assertEqual(as_text(answered[1]), "N:" + " ".join(hands))

    def test_a_right_text_replaces_the_deal(self):
        answered = run(read(7, FIRST), read(7, PART), shown(7), read(7, NOTHING), shown(7))
        self.assertEqual(as_text(answered[2]), PART)
        self.assertEqual(as_text(answered[4]), NOTHING)

    def test_a_hand_of_no_cards_with_its_mark(self):
        answered = run(read(0, "N:...? ...? ...? ...?"), shown(0))
        self.assertEqual(answered[0], [0, 0, 0])
        self.assertEqual(as_text(answered[1]), NOTHING)

    def test_a_hand_of_twelve_and_of_thirteen(self):
        self.assertEqual(last(read(0, "N:- AKQJT9876543...? - -")), [0, 0, 12])
        self.assertEqual(last(read(0, "N:- AKQJT9876543..2. - -")), [0, 0, 13])


class WrongTexts(unittest.TestCase):

    def wrong(self, text, kind, place):
        self.assertEqual(last(read(0, text)), [0, kind, place], text)

    def test_kind_1_ahead_of_the_hands(self):
        for text, place in (("", 0), ("X", 0), ("n:- - - -", 0), (" N:- - - -", 0), ("N", 1), ("N-", 1),
                            ("N;- - - -", 1), ("NN:- - - -", 1), ("N:", 2), ("N: - - - -", 2)):
            self.wrong(text, 1, place)

    def test_kind_1_between_and_behind_hands(self):
        for text, place in (("N:-", 3), ("N:- ", 4), ("N:--", 3), ("N:-.", 3), ("N:-?", 3), ("N:-A", 3),
                            ("N:-  - - -", 4), ("N:- - -", 7), ("N:- - - ", 8), ("N:- - - - ", 9), ("N:- - - -\n", 9),
                            ("N:- - - -?", 9), ("N:- - - - -", 9), ("N:...?", 6), ("N:...??", 6), ("N:...?.", 6),
                            ("N:...?A", 6), ("N:- - - ...??", 12), ("N:- - - ...? ", 12)):
            self.wrong(text, 1, place)

    def test_kind_1_in_a_suit(self):
        for text, place in (("N:A", 3), ("N:A.", 4), ("N:A.K.", 6), ("N:A-", 3), ("N:A ", 3), ("N:a...?", 2),
                            ("N:A1...?", 3), ("N:10...?", 2), ("N:A..x.?", 5), ("N:..", 4), ("N:.-", 3)):
            self.wrong(text, 1, place)

    def test_kind_1_for_a_mark_ahead_of_the_third_point(self):
        for text, place in (("N:?", 2), ("N:AK?", 4), ("N:AK.?", 5), ("N:AK..?", 6), ("N:- AK..Q?..", 9),
                            (f"N:{SUIT}?", 15), (f"N:{SUIT}..?", 17)):
            self.wrong(text, 1, place)

    def test_kind_1_behind_a_hand_of_thirteen(self):
        full = f"N:{SUIT}..."
        for tail in ("", ".", "-", "x", "...", ":"):
            self.wrong(full + tail, 1, len(full))
        self.wrong(f"N:- - - {SUIT}... ", 1, 24)
        self.wrong(WHOLE + " ", 1, len(WHOLE))

    def test_kind_2(self):
        for text, place in (("N:KA...?", 3), ("N:AA...?", 3), ("N:A.23", 5), ("N:A.K.QJT9T", 10), ("N:...22", 6),
                            ("N:AKQJT987654322", 15), ("N:A.A.9T.", 7)):
            self.wrong(text, 2, place)

    def test_a_new_suit_begins_above(self):
        self.assertEqual(last(read(0, "N:2.A.K.Q? - - 3.2.2.2?")), [0, 0, 8])

    def test_kind_3(self):
        for text, place in (("N:A...? A", 8), ("N:...2? - AK..K.32", 17), ("S:.T..? - - .T", 13),
                            ("W:- .5..? .5..?", 11)):
            self.wrong(text, 3, place)

    def test_one_rank_in_four_suits_is_four_cards(self):
        self.assertEqual(last(read(0, "N:A...? - - KQ.A.A.A?")), [0, 0, 6])

    def test_kind_4(self):
        self.wrong(f"N:{SUIT}.A", 4, 16)
        self.wrong(f"N:{SUIT}...2", 4, 18)
        self.wrong("N:AKQJ.AKQJ.AKQJ.AK?", 4, 18)
        self.wrong("N:- - - AKQJ.AKQJ.AKQJ.AK", 4, 24)

    def test_the_smallest_of_2_3_and_4(self):
        self.wrong("N:A...? KA", 2, 9)
        self.wrong(f"N:.2..? {SUIT}.2", 3, 22)
        self.wrong(f"N:{SUIT}2", 2, 15)
        self.wrong("N:.A..? T98765432.KQJTA", 2, 22)
        self.wrong("N:...A? AKQJT9876543...2A", 2, 24)
        self.wrong("N:...A? AKQJT98765432...A", 3, 24)

    def test_kind_5(self):
        for text, place in (("N:...", 5), ("N:... ", 5), ("N:....", 5), ("N:...-", 5), ("N:...x", 5), ("N:...A", 6),
                            ("N:...AK ", 7), ("N:AKQJT9876543...", 17), ("N:- - - ...", 11),
                            ("N:- - - AK.AK.AK.AK", 19), ("N:- - - AK.AK.AK.AK ?", 19), ("N:...1", 5),
                            ("N:A.K.Q.J- - -", 9)):
            self.wrong(text, 5, place)

    def test_kind_5_behind_a_wrong_rank_does_not_count(self):
        self.wrong("N:...KA", 2, 6)
        self.wrong("N:...A? ...A", 3, 11)

    def test_kind_6(self):
        for text, place in ((f"N:{SUIT}...?", 18), (f"N:...{SUIT}?", 18), (f"N:- - - .{SUIT}..?", 24),
                            (WHOLE + "?", len(WHOLE))):
            self.wrong(text, 6, place)

    def test_all_bytes(self):
        for byte in range(256):
            expected = [0, 1, 2] if byte not in b"-.AKQJT98765432" else [0, 1, 3]
            self.assertEqual(last(read(0, [78, 58, byte])), expected, byte)
        self.assertEqual(last(read(0, [78, 58, 46, 46, 46, 255])), [0, 5, 5])

    def test_lengths(self):
        self.assertEqual(last(read(0, [])), [0, 1, 0])
        long = text_bytes(NOTHING) + [32] * (200 - len(NOTHING))
        self.assertEqual(last(read(0, long)), [0, 1, len(NOTHING)])
        self.assertEqual(last(read(0, long + [32])), [-1])
        self.assertEqual(last(read(0, [32] * 300)), [-1])

    def test_bytes_out_of_range(self):
        self.assertEqual(last(read(0, [255])), [0, 1, 0])
        for byte in (256, -1, 10 ** 18, -10 ** 18, 78 + 256):
            self.assertEqual(last(read(0, [byte])), [-1])
            self.assertEqual(last(read(0, text_bytes(NOTHING) + [byte])), [-1])

    def test_boards_out_of_range(self):
        for b in (-1, 16, 10 ** 18, -10 ** 18):
            self.assertEqual(last(read(b, NOTHING)), [-1])
        for b in (0, 15):
            self.assertEqual(last(read(b, NOTHING)), [0, 0, 0])

    def test_a_wrong_text_leaves_the_board_as_it_was(self):
        for text in ("", "N:KA", "N:A...? A", f"N:{SUIT}.A", "N:A...", f"N:{SUIT}...?", PART + " ", [256], [0] * 201):
            answered = run(read(2, PART), read(2, text), shown(2))
            self.assertEqual(as_text(answered[2]), PART)

    def test_a_wrong_text_leaves_the_board_not_there(self):
        for text in ("", "N:KA", "N:A...? A", f"N:{SUIT}.A", "N:A...", f"N:{SUIT}...?", PART + " ", [256], [0] * 201):
            self.assertEqual(last(read(2, text), shown(2)), [-2])


def fault_by_points(text):
    """What is wrong in a text by its kind and place, or None: told hand by hand, looking back over what was read."""
    if text[:1] not in ("N", "E", "S", "W"):
        return 1, 0
    if text[1:2] != ":":
        return 1, 1
    start = 2
    told = []
    for turn in range(4):
        end, cards, fault = hand_by_points(text, start, told)
        if fault is not None:
            return fault
        told += cards
        wanted = " " if turn < 3 else ""
        if text[end:end + 1] != wanted:
            return 1, end
        start = end + 1
    return None


def hand_by_points(text, start, told):
    if text[start:start + 1] == "-":
        return start + 1, [], None
    cards = []
    place = start
    while True:
        sign = text[place:place + 1]
        points = text[start:place].count(".")
        if sign and sign in SUIT:
            card = (points, sign)
            earlier = text[place - 1:place]
            if place > start and earlier in SUIT and SUIT.index(earlier) >= SUIT.index(sign):
                return place, cards, (2, place)
            if card in told:
                return place, cards, (3, place)
            if len(cards) == 13:
                return place, cards, (4, place)
            cards.append(card)
        elif points < 3 and sign != ".":
            return place, cards, (1, place)
        elif points == 3:
            return hand_end_by_points(place, sign, cards)
        place += 1


def hand_end_by_points(place, sign, cards):
    if len(cards) < 13:
        return place + 1, cards, None if sign == "?" else (5, place)
    return place, cards, (6, place) if sign == "?" else None


class ManyTexts(unittest.TestCase):

    def check(self, text):
        fault = fault_by_points(text)
        answer = last(read(0, text))
        if fault is None:
            self.assertEqual(answer[:2], [0, 0], text)
        else:
            self.assertEqual(answer, [0, fault[0], fault[1]], text)
        return fault

    def test_texts_spoiled_in_some_place(self):
        source = random.Random(1)
        kinds = {}
        for turn in range(3000):
            known = source.choice((0, 3, 13, 26, 39, 48, 51, 52))
            text = text_of(random_part(source, known), source.randrange(4))
            for spoiled in range(source.randrange(3)):
                at = source.randrange(len(text) + 1)
                sign = source.choice("-.? :NESWAKQJT98765432x" + text)
                text = text[:at] + source.choice((sign, "")) + text[at + source.randrange(2):]
            fault = self.check(text[:200])
            kinds[fault and fault[0]] = True
        self.assertEqual(sorted(kinds, key=str), [1, 2, 3, 4, 5, 6, None])

    def test_every_beginning_of_a_text(self):
        for text in (FIRST, WHOLE, PART, NOTHING):
            for length in range(len(text) + 1):
                self.check(text[:length])


if __name__ == "__main__":
    unittest.main()
