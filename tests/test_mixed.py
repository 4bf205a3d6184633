"""Calls of all kinds mixed in one list, against a plain model that is written from the words."""

import math
import random
import unittest

from dealboards.boards import answers
from tests.helper import ALL_DEALS, LAST, digits, fits_by_formula, held_by, holders_of, place_by_counting, random_part
from tests.helper import random_whole, row, run, text_bytes, text_of
from tests.test_hands import features_by_words
from tests.test_next import next_row
from tests.test_read import fault_by_points
from tests.test_session import STEP

# For each call: the highest values of its plain arguments; of each row the least and greatest length and the
# highest number.
RANGES = {
    0: ((15,), ((0, 200, 255),)), 1: ((15,), ()), 2: ((15,), ()), 3: ((15,), ()), 4: ((15,), ((0, 40, 9),)),
    5: ((15, 15), ((0, 40, 9),)), 6: ((15, 15), ()), 7: ((15, 10 ** 9), ((0, 40, 9),)), 8: ((15, 3), ()),
    9: ((15,), ((4, 4, 3),)), 10: ((15, 3), ()), 11: ((15, 3), ()), 12: ((15,), ((0, 52, 51),) * 4),
    13: ((15, 51, 3), ()), 14: ((15, 51), ()), 15: ((15, 15, 15), ()), 16: ((15,), ()), 17: ((15, 51, 3), ()),
    18: ((15,), ()), 19: ((15,), ()),
}
ASK_FOR_NO_BOARD = (0, 4, 7, 16)
NAMES = ("read shown count number deal nth place session rotate suits hand features curtain know forget meet clear "
         "chance next sure").split()


def told_number(told, bound):
    text = "".join(str(digit) for digit in told)
    if text == "" or (text[0] == "0" and text != "0") or int(text) >= bound:
        return None
    return int(text)


def fit_by_counting(holders, place):
    """The whole deal with this number among those that fit, card by card with the formula."""
    told = dict(holders)
    for card in range(52):
        if card in told:
            continue
        for seat in range(4):
            if len(held_by(told, seat)) < 13:
                ways = fits_by_formula({**told, card: seat})
                if place < ways:
                    told[card] = seat
                    break
                place -= ways
    return told


class Model:
    """Boards as dicts from the known cards to their seats."""

    def __init__(self):
        self.boards = {}

    def answer(self, number, plain, rows):
        highest, shapes = RANGES[number]
        if any(not 0 <= value <= bound for value, bound in zip(plain, highest)):
            return [-1]
        for numbers, (least, most, bound) in zip(rows, shapes):
            if not least <= len(numbers) <= most or any(not 0 <= value <= bound for value in numbers):
                return [-1]
        if number not in ASK_FOR_NO_BOARD and plain[0] not in self.boards:
            return [-2]
        return getattr(self, NAMES[number])(*plain, *rows)

    def whole(self, b):
        return len(self.boards[b]) == 52

    def place_of(self, b):
        return place_by_counting({}, self.boards[b])

    def read(self, b, text):
        signs = bytes(text).decode("latin-1")
        fault = fault_by_points(signs)
        if fault is not None:
            return [0, fault[0], fault[1]]
        self.boards[b] = holders_of(signs)
        return [0, 0, len(self.boards[b])]

    def shown(self, b):
        return [0] + text_bytes(text_of(self.boards[b]))

    def count(self, b):
        return [0] + digits(fits_by_formula(self.boards[b]))

    def number(self, b):
        return [0] + digits(self.place_of(b)) if self.whole(b) else [-3]

    def deal(self, b, told):
        return self.session(b, 0, told)

    def nth(self, b, c, told):
        place = told_number(told, fits_by_formula(self.boards[b]))
        if place is None:
            return [-4]
        self.boards[c] = fit_by_counting(self.boards[b], place)
        return [0]

    def place(self, b, c):
        if c not in self.boards:
            return [-2]
        if not self.whole(c):
            return [-3]
        if any(self.boards[c][card] != self.boards[b][card] for card in self.boards[b]):
            return [-5]
        return [0] + digits(place_by_counting(self.boards[b], self.boards[c]))

    def session(self, b, i, told):
        start = told_number(told, ALL_DEALS)
        if start is None:
            return [-4]
        self.boards[b] = fit_by_counting({}, (start + i * STEP) % ALL_DEALS)
        return [0]

    def rotate(self, b, k):
        self.boards[b] = {card: (seat + k) % 4 for card, seat in self.boards[b].items()}
        return [0]

    def suits(self, b, order):
        if sorted(order) != [0, 1, 2, 3]:
            return [-6]
        self.boards[b] = {order[card // 13] * 13 + card % 13: seat for card, seat in self.boards[b].items()}
        return [0]

    def hand(self, b, seat):
        return [0] + held_by(self.boards[b], seat)

    def features(self, b, seat):
        cards = held_by(self.boards[b], seat)
        return [0] + features_by_words(cards) if len(cards) == 13 else [-3]

    def curtain(self, b, *pockets):
        if not self.whole(b):
            return [-3]
        if any(len(set(found)) < len(found) for found in pockets):
            return [-7]
        told = [0]
        for seat, found in enumerate(pockets):
            own = set(held_by(self.boards[b], seat))
            told += row(sorted(own - set(found))) + row(sorted(set(found) - own))
        return told

    def know(self, b, card, seat):
        if card in self.boards[b]:
            return [-5]
        if len(held_by(self.boards[b], seat)) == 13:
            return [-8]
        self.boards[b] = {**self.boards[b], card: seat}
        return [0]

    def forget(self, b, card):
        if card not in self.boards[b]:
            return [-5]
        self.boards[b] = {other: seat for other, seat in self.boards[b].items() if other != card}
        return [0]

    def meet(self, b, c, d):
        if c not in self.boards:
            return [-2]
        both = {**self.boards[b], **self.boards[c]}
        unlike = any(both[card] != self.boards[b][card] for card in self.boards[b])
        if unlike or any(len(held_by(both, seat)) > 13 for seat in range(4)):
            return [-5]
        self.boards[d] = both
        return [0]

    def clear(self, b):
        self.boards[b] = {}
        return [0]

    def chance(self, b, card, seat):
        holders = self.boards[b]
        if card in holders:
            return [0, int(holders[card] == seat), 1]
        room, unknown = 13 - len(held_by(holders, seat)), 52 - len(holders)
        return [0, room // math.gcd(room, unknown), unknown // math.gcd(room, unknown)]

    def next(self, b):
        if not self.whole(b):
            return [-3]
        if text_of(self.boards[b]) == LAST:
            return [-4]
        self.boards[b] = dict(enumerate(next_row([self.boards[b][card] for card in range(52)])))
        return [0]

    def sure(self, b):
        short = [seat for seat in range(4) if len(held_by(self.boards[b], seat)) < 13]
        if len(short) != 1:
            return [0, 0]
        missing = [card for card in range(52) if card not in self.boards[b]]
        self.boards[b] = {**self.boards[b], **{card: short[0] for card in missing}}
        return [0, len(missing)]


class Caller:
    """Makes calls by chance, most of them in their ranges, on few boards so that they meet."""

    def __init__(self, seed):
        self.source = random.Random(seed)

    def number_up_to(self, highest):
        if self.source.randrange(80) == 0:
            return self.source.choice((-1, highest + 1, 10 ** 18, -10 ** 18))
        if highest == 15:
            return self.source.choice((0, 1, 2, 3, 3, 15))
        return self.source.choice((self.source.randint(0, highest), self.source.randint(0, highest), 0, highest))

    def text(self):
        known = self.source.choice((0, 3, 26, 39, 48, 51, 52, 52))
        text = text_of(random_part(self.source, known), self.source.randrange(4))
        if self.source.randrange(5) == 0:
            at = self.source.randrange(len(text))
            text = text[:at] + self.source.choice("-.? AKQ2x") + text[at + self.source.randrange(2):]
        return text_bytes(text)

    def told(self):
        bound = self.source.choice((1, 10, 10 ** 6, 10 ** 20, ALL_DEALS, ALL_DEALS + 10 ** 27))
        told = digits(self.source.choice((self.source.randrange(bound), bound - 1)))
        return [0] * (self.source.randrange(20) == 0) + told * (self.source.randrange(20) != 0)

    def pocket(self, model, b, seat):
        found = held_by(model.boards.get(b, {}), seat)
        self.source.shuffle(found)
        found = found[self.source.randrange(3):] + self.source.sample(range(52), self.source.randrange(4))
        return found if self.source.randrange(12) == 0 else list(dict.fromkeys(found))

    def rows(self, model, number, b):
        if number == 0:
            return [self.text()]
        if number in (4, 5, 7):
            return [self.told()]
        if number == 9:
            return [self.source.sample(range(4), 4) if self.source.randrange(4) else [0, 1, 2, 2]]
        if number == 12:
            return [self.pocket(model, b, seat) for seat in range(4)]
        return []

    def spoil(self, rows):
        if rows and self.source.randrange(30) == 0:
            at = self.source.randrange(len(rows))
            rows[at] = self.source.choice((rows[at] + [256], rows[at] + [-1], [0] * 300))

    def call(self, model):
        number = self.source.randrange(20)
        plain = [self.number_up_to(highest) for highest in RANGES[number][0]]
        rows = self.rows(model, number, plain[0])
        self.spoil(rows)
        return number, plain, rows


def flat(number, plain, rows):
    return [number] + plain + [value for numbers in rows for value in row(numbers)]


class Mixed(unittest.TestCase):

    def check_line(self, seed, length, seen):
        caller, model = Caller(seed), Model()
        calls, expected = [], []
        for turn in range(length):
            number, plain, rows = caller.call(model)
            calls.append(flat(number, plain, rows))
            expected.append(model.answer(number, plain, rows))
            seen[(NAMES[number], min(expected[-1][0], 0))] = True
        self.assertEqual(run(*calls), expected)
        line = [value for call in calls for value in call]
        before = list(line)
        once = answers(line)
        self.assertEqual(line, before)
        self.assertEqual(answers(line), once)

    def test_lines(self):
        seen = {}
        for seed in range(20):
            self.check_line(seed, 400, seen)
        for seed in range(100, 160):
            self.check_line(seed, seed % 30 + 1, seen)
        for name in NAMES:
            self.assertIn((name, 0), seen)
            self.assertIn((name, -1), seen)
        for kind in (("number", -3), ("deal", -4), ("nth", -4), ("place", -3), ("place", -5), ("session", -4),
                     ("suits", -6), ("features", -3), ("curtain", -3), ("curtain", -7), ("know", -5), ("know", -8),
                     ("forget", -5), ("meet", -5), ("next", -3)):
            self.assertIn(kind, seen)

    def test_one_call_alone(self):
        for seed in range(200, 300):
            self.check_line(seed, 1, {})

    def test_the_longest_answers(self):
        whole = random_whole(random.Random(71))
        pockets = [list(range(52))] * 4
        calls = [[0, 0] + row(text_bytes(text_of(whole)))] + [flat(12, [0], pockets)] * 70
        model = Model()
        model.boards[0] = whole
        self.assertEqual(run(*calls)[1:], [model.answer(12, [0], pockets)] * 70)


if __name__ == "__main__":
    unittest.main()
