"""Promises 10 and 11: hand, features."""

import random
import unittest

from tests.helper import FIRST, NOTHING, PART, SUIT, WHOLE, as_text, features, forget, hand, held_by, holders_of, last
from tests.helper import random_part, random_whole, read, run, shown, text_of

# Losers of a suit by its cards.
LOSERS = (
    ("", 0),
    ("A", 0), ("K", 1), ("Q", 1), ("J", 1), ("2", 1),
    ("AK", 0), ("AQ", 1), ("AJ", 1), ("A2", 1), ("KQ", 1), ("K2", 1), ("QJ", 2), ("Q2", 2), ("JT", 2), ("32", 2),
    ("AKQ", 0), ("AKJ", 1), ("AQJ", 1), ("KQJ", 1), ("AJT", 2), ("KJT", 2), ("QJT", 2), ("JT9", 3), ("432", 3),
    ("AKQ2", 0), ("AK32", 1), ("AQ32", 1), ("KQ32", 1), ("A432", 2), ("K432", 2), ("Q432", 2), ("5432", 3),
    ("JT98765", 3), ("Q98765432", 2), ("KQJT987654", 1), ("AKQJT98765", 0),
)


class Hand(unittest.TestCase):

    def test_no_card_known(self):
        for seat in range(4):
            self.assertEqual(last(read(2, NOTHING), hand(2, seat)), [0])
        self.assertEqual(last(read(2, PART), hand(2, 1)), [0])

    def test_some_cards_known_rising(self):
        self.assertEqual(last(read(2, PART), hand(2, 0)), [0, 36, 50, 51])
        self.assertEqual(last(read(2, PART), hand(2, 2)), [0, 2, 14, 26])
        self.assertEqual(last(read(2, "N:- - - A.K.Q.J5432?"), hand(2, 3)), [0, 0, 1, 2, 3, 9, 23, 37, 51])

    def test_thirteen_cards_known(self):
        for seat in range(4):
            self.assertEqual(last(read(0, FIRST), hand(0, seat)), [0] + list(range(13 * seat, 13 * seat + 13)))
        self.assertEqual(last(read(0, PART), hand(0, 3)), [0, 12, 24, 25, 27, 28, 35, 37, 38, 42, 43, 44, 45, 46])

    def test_many_deals(self):
        source = random.Random(21)
        for turn in range(100):
            holders = random_part(source, source.choice((0, 1, 13, 30, 51, 52)))
            answered = run(read(0, text_of(holders)), *[hand(0, seat) for seat in range(4)], shown(0))
            self.assertEqual(answered[1:5], [[0] + held_by(holders, seat) for seat in range(4)])
            self.assertEqual(as_text(answered[5]), text_of(holders))

    def test_refusals(self):
        for call in (hand(0, 4), hand(0, -1), hand(16, 0), hand(-1, 0), hand(0, 10 ** 18)):
            self.assertEqual(run(call, read(0, PART), call)[::2], [[-1], [-1]], call)
        self.assertEqual(last(hand(0, 0)), [-2])
        self.assertEqual(last(read(1, PART), hand(0, 3)), [-2])


def losers_by_words(ranks):
    """The losers of a suit, case by case as the words tell them."""
    ace, king, queen = 12 in ranks, 11 in ranks, 10 in ranks
    if len(ranks) == 0:
        return 0
    if len(ranks) == 1:
        return 1 - ace
    if len(ranks) == 2:
        return 2 - ace - king
    return 3 - ace - king - queen


def features_by_words(cards):
    suits = {suit: [card % 13 for card in cards if card // 13 == suit] for suit in range(4)}
    points = sum({12: 4, 11: 3, 10: 2, 9: 1}.get(card % 13, 0) for card in cards)
    controls = sum({12: 2, 11: 1}.get(card % 13, 0) for card in cards)
    lengths = [len(suits[3]), len(suits[2]), len(suits[1]), len(suits[0])]
    losers = sum(losers_by_words(suits[suit]) for suit in suits)
    return [points, controls, losers] + lengths + sorted(lengths)[::-1]


class Features(unittest.TestCase):

    def has(self, hand_text, expected):
        """Asks each seat in turn, nothing else being known."""
        for seat in range(4):
            text = "NESW"[seat] + ":" + hand_text + " - - -"
            self.assertEqual(last(read(6, text), features(6, seat)), [0] + expected, text)

    def test_ordinary_hands(self):
        self.has("AK.QJT.98765.432", [10, 3, 8, 2, 3, 5, 3, 5, 3, 3, 2])
        self.has("KQ94.A73.J8652.T", [10, 3, 7, 4, 3, 5, 1, 5, 4, 3, 1])
        self.has("A.K.QJ.T98765432", [10, 3, 6, 1, 1, 2, 9, 9, 2, 1, 1])

    def test_the_least_and_the_most(self):
        self.has("9876.987.987.987", [0, 0, 12, 4, 3, 3, 3, 4, 3, 3, 3])
        self.has("AKQJ.AKQ.AKQ.AKQ", [37, 12, 0, 4, 3, 3, 3, 4, 3, 3, 3])

    def test_one_suit_alone(self):
        self.has(f"{SUIT}...", [10, 3, 0, 13, 0, 0, 0, 13, 0, 0, 0])
        self.has(f".{SUIT}..", [10, 3, 0, 0, 13, 0, 0, 13, 0, 0, 0])
        self.has(f"..{SUIT}.", [10, 3, 0, 0, 0, 13, 0, 13, 0, 0, 0])
        self.has(f"...{SUIT}", [10, 3, 0, 0, 0, 0, 13, 13, 0, 0, 0])

    def test_points_and_controls_of_each_rank(self):
        for sign, points, controls in (("A", 4, 2), ("K", 3, 1), ("Q", 2, 0), ("J", 1, 0), ("T", 0, 0)):
            for suit in range(4):
                parts = ["987", "987", "987", "987"]
                parts[suit] = sign + "987"
                answer = last(read(0, "N:" + ".".join(parts) + " - - -"), features(0, 0))
                self.assertEqual(answer[:3], [0, points, controls], (sign, suit))

    def test_losers_of_a_suit(self):
        for signs, losers in LOSERS:
            for suit in range(4):
                # The other suit begins with ace, king and queen, so it has no losers.
                parts = ["", "", "", ""]
                parts[suit] = signs
                parts[(suit + 1) % 4] = SUIT[:13 - len(signs)]
                answer = last(read(0, "N:" + ".".join(parts) + " - - -"), features(0, 0))
                self.assertEqual(answer[3], losers, parts)

    def test_losers_are_added(self):
        self.has("K.KQ.QJT.AK98765", [18, 5, 5, 1, 2, 3, 7, 7, 3, 2, 1])
        self.has("Q.32.5432.765432", [2, 0, 9, 1, 2, 4, 6, 6, 4, 2, 1])

    def test_a_whole_deal(self):
        source = random.Random(22)
        for turn in range(100):
            whole = random_whole(source)
            answered = run(read(0, text_of(whole)), *[features(0, seat) for seat in range(4)], shown(0))
            self.assertEqual(answered[1:5], [[0] + features_by_words(held_by(whole, seat)) for seat in range(4)])
            self.assertEqual(as_text(answered[5]), text_of(whole))

    def test_long_suits(self):
        source = random.Random(23)
        for turn in range(300):
            suits = source.sample(range(4), 2)
            cards = [card for card in range(52) if card // 13 in suits]
            held = source.sample(cards, 12) + [source.choice([card for card in range(52) if card // 13 not in suits])]
            text = text_of({card: 0 for card in held})
            self.assertEqual(last(read(0, text), features(0, 0)), [0] + features_by_words(held))

    def test_twelve_cards_known(self):
        self.assertEqual(last(read(0, "N:AKQ.AKQ.AKQ.AKQ? - - -"), features(0, 0)), [-3])
        answered = run(read(0, WHOLE), forget(0, 51), *[features(0, seat) for seat in range(4)])
        self.assertEqual([answer[0] for answer in answered[2:]], [-3, 0, 0, 0])

    def test_no_card_known(self):
        for seat in range(4):
            self.assertEqual(last(read(0, NOTHING), features(0, seat)), [-3])

    def test_thirteen_cards_of_a_deal_that_is_not_whole(self):
        west = held_by(holders_of(PART), 3)
        answered = run(read(0, PART), *[features(0, seat) for seat in range(4)])
        self.assertEqual(answered[1:], [[-3], [-3], [-3], [0] + features_by_words(west)])

    def test_refusals(self):
        for call in (features(0, 4), features(0, -1), features(16, 0), features(-1, 0), features(0, -10 ** 18)):
            self.assertEqual(run(call, read(0, NOTHING), call)[::2], [[-1], [-1]], call)
        self.assertEqual(last(features(0, 0)), [-2])
        self.assertEqual(last(read(1, WHOLE), features(0, 3)), [-2])


if __name__ == "__main__":
    unittest.main()
