"""The order of refusals, and the interface: calls one behind another, boards side by side, nothing kept."""

import unittest

from dealboards.boards import answers
from tests.helper import ALL_DEALS, FIRST, LAST, NOTHING, PART, WHOLE, as_text, chance, clear, count, curtain, deal
from tests.helper import digits, features, forget, hand, know, last, meet, next_deal, nth, number, place, read, rotate
from tests.helper import run, session, shown, suits, sure, text_bytes

FAR = 10 ** 18


def calls_with_plain(far):
    """For each plain argument of each call: the call with it out of range, all else in range."""
    return (read(far, NOTHING), shown(far), count(far), number(far), deal(far, [0]), nth(far, 0, [0]),
            nth(0, far, [0]), place(far, 0), place(0, far), session(far, 0, [0]), session(0, far, [0]),
            rotate(far, 0), rotate(0, far), suits(far, [0, 1, 2, 3]), hand(far, 0), hand(0, far), features(far, 0),
            features(0, far), curtain(far, [], [], [], []), know(far, 0, 0), know(0, far, 0), know(0, 0, far),
            forget(far, 0), forget(0, far), meet(far, 0, 0), meet(0, far, 0), meet(0, 0, far), clear(far),
            chance(far, 0, 0), chance(0, far, 0), chance(0, 0, far), next_deal(far), sure(far))


class OrderOfRefusals(unittest.TestCase):

    def test_1_before_2_for_each_call_that_asks_for_a_board(self):
        for call in (shown(16), count(-1), number(16), nth(0, 16, [0]), nth(0, 0, [10]), nth(0, 0, [1] * 41),
                     place(0, 16), place(16, 0), rotate(0, 4), suits(0, [0, 1, 2]), suits(0, [0, 1, 2, 4]),
                     hand(0, 4), features(0, 4), curtain(0, [], [], [], [52]), curtain(0, [0] * 53, [], [], []),
                     know(0, 52, 0), know(0, 0, 4), forget(0, 52), meet(0, 1, 16), chance(0, 52, 0), chance(0, 0, 4),
                     next_deal(16), sure(16)):
            self.assertEqual(last(call), [-1], call)
        for far in (-1, 1000000001, -FAR, FAR):
            for call in calls_with_plain(far):
                self.assertEqual(last(call), [-1], call)

    def test_1_before_the_others(self):
        for call in (number(16), deal(16, []), deal(0, [0, 10]), nth(0, 16, []), nth(0, 0, [0, 0, -1]), place(0, 16),
                     session(16, 0, []), session(0, -1, []), suits(16, [0, 0, 0, 0]), suits(0, [0, 0, 0, 4]),
                     features(0, 4), curtain(0, [0, 0], [], [], [52]), know(0, 51, 4), know(0, 0, 4), forget(0, 52),
                     meet(0, 9, 16), next_deal(16)):
            self.assertEqual(last(read(0, PART), call), [-1], call)

    def test_1_before_a_wrong_text(self):
        self.assertEqual(last(read(16, "X")), [-1])
        self.assertEqual(last(read(0, [0, 256])), [-1])

    def test_2_before_the_others(self):
        for call in (shown(0), count(0), number(0), nth(0, 1, []), nth(0, 1, digits(ALL_DEALS)), place(0, 1),
                     rotate(0, 0), suits(0, [0, 0, 0, 0]), hand(0, 0), features(0, 0), curtain(0, [0, 0], [], [], []),
                     know(0, 51, 3), know(0, 0, 3), forget(0, 0), forget(0, 51), meet(0, 1, 1), meet(0, 2, 1),
                     chance(0, 0, 0), next_deal(0), sure(0)):
            self.assertEqual(last(call), [-2], call)
            self.assertEqual(last(read(1, PART), call), [-2], call)

    def test_the_others_in_the_order_told(self):
        for call, expected in ((place(1, 0), -3), (curtain(0, [0, 0], [], [], []), -3), (know(0, 51, 3), -5),
                               (know(0, 0, 3), -8), (next_deal(0), -3)):
            self.assertEqual(last(read(0, PART), read(1, WHOLE), call), [expected], call)

    def test_read_deal_session_and_clear_ask_for_no_board(self):
        self.assertEqual(run(read(0, PART), deal(1, [0]), session(2, 0, [0]), clear(3)), [[0, 0, 19], [0], [0], [0]])

    def test_every_plain_argument_out_of_range(self):
        for far in (-1, 1000000001, -FAR, FAR):
            for call in calls_with_plain(far):
                answered = run(read(0, PART), call, shown(0))
                self.assertEqual(answered[1], [-1], call)
                self.assertEqual(as_text(answered[2]), PART)

    def test_the_first_number_beyond_each_range(self):
        for call in (read(16, NOTHING), shown(16), count(16), number(16), deal(16, [0]), nth(16, 0, [0]),
                     nth(0, 16, [0]), place(16, 0), place(0, 16), session(16, 0, [0]), rotate(16, 0), rotate(0, 4),
                     suits(16, [0, 1, 2, 3]), hand(16, 0), hand(0, 4), features(16, 0), features(0, 4),
                     curtain(16, [], [], [], []), know(16, 0, 0), know(0, 52, 0), know(0, 0, 4), forget(16, 0),
                     forget(0, 52), meet(16, 0, 0), meet(0, 16, 0), meet(0, 0, 16), clear(16), chance(16, 0, 0),
                     chance(0, 52, 0), chance(0, 0, 4), next_deal(16), sure(16)):
            self.assertEqual(last(read(0, FIRST), call), [-1], call)

    def test_every_plain_argument_at_its_ends(self):
        for b in (0, 15):
            for call in (read(b, NOTHING), shown(b), count(b), number(b), deal(b, [0]), nth(b, b, [0]), place(b, b),
                         session(b, 0, [0]), session(b, 1000000000, [0]), rotate(b, 0), rotate(b, 3),
                         suits(b, [0, 1, 2, 3]), hand(b, 0), hand(b, 3), features(b, 0), features(b, 3),
                         curtain(b, [], [0], [51], list(range(52))), forget(b, 0), forget(b, 51), meet(b, b, b),
                         clear(b), chance(b, 0, 0), chance(b, 51, 3), next_deal(b), sure(b)):
                self.assertEqual(last(read(b, FIRST), call)[0], 0, call)
            for call in (know(b, 0, 0), know(b, 51, 3)):
                self.assertEqual(last(clear(b), call), [0], call)

    def test_a_refusal_changes_nothing(self):
        refused = (shown(9), number(0), deal(0, []), nth(0, 1, []), nth(0, 9, []), place(1, 0), session(1, 0, []),
                   rotate(0, 4), suits(0, [0, 0, 0, 0]), read(0, [256]), nth(9, 0, [0]), hand(9, 0), features(0, 0),
                   curtain(0, [], [], [], []), curtain(1, [0, 0], [], [], []), know(0, 51, 0), know(0, 0, 3),
                   know(1, 0, 0), know(9, 0, 0), forget(0, 0), forget(9, 0), meet(0, 1, 0), meet(0, 1, 1),
                   meet(0, 1, 9), meet(0, 9, 9), meet(9, 0, 9), meet(0, 0, 16), clear(16), chance(9, 0, 0),
                   next_deal(0), next_deal(9), sure(9), sure(-1))
        for call in refused:
            answered = run(read(0, PART), read(1, WHOLE), call, shown(0), shown(1), shown(9))
            self.assertLess(answered[2][0], 0, call)
            self.assertEqual(len(answered[2]), 1)
            self.assertEqual([as_text(answered[3]), as_text(answered[4])], [PART, WHOLE])
            self.assertEqual(answered[5], [-2])


class Interface(unittest.TestCase):

    def test_each_answer_stands_behind_its_length(self):
        text = text_bytes(NOTHING)
        calls = [0, 3, len(text)] + text + [1, 3, 1, 4, 0, 3, 0, 4, 2, 1, 7, 3, 2, 8, 2, 3]
        expected = [3, 0, 0, 0] + [1 + len(text), 0] + text + [1, -2, 3, 0, 1, 0, 1, 0, 2, 0, 7, 1, 0]
        self.assertEqual(answers(calls), expected)

    def test_each_answer_of_the_later_calls_stands_behind_its_length(self):
        calls = clear(2) + know(2, 5, 1) + hand(2, 1) + hand(2, 0) + features(2, 1) + chance(2, 6, 1) + forget(2, 5)
        calls += meet(2, 2, 3) + sure(3) + next_deal(3) + deal(2, [0]) + next_deal(2) + features(2, 0)
        calls += curtain(2, list(range(13)), [], [26, 0], [])
        expected = [1, 0, 1, 0, 2, 0, 5, 1, 0, 1, -3, 3, 0, 4, 17, 1, 0, 1, 0, 2, 0, 0, 1, -3, 1, 0, 1, 0]
        expected += [12, 0, 10, 3, 0, 0, 0, 0, 13, 13, 0, 0, 0]
        curtain_told = [0, 0, 0, 13] + list(range(13, 26)) + [0, 12] + list(range(27, 38)) + [39, 1, 0]
        curtain_told += [13, 38] + list(range(40, 52)) + [0]
        expected += [len(curtain_told)] + curtain_told
        self.assertEqual(answers(calls), expected)

    def test_the_rows_of_curtain_are_passed_over_whole(self):
        answered = run(curtain(0, [0] * 300, [FAR] * 300, [], [1]), clear(0), curtain(16, [], [19, 0], [16, 0], [52]),
                       curtain(0, [], [], [], []), shown(0))
        self.assertEqual(answered[:4], [[-1], [0], [-1], [-3]])
        self.assertEqual(as_text(answered[4]), NOTHING)

    def test_a_row_out_of_range_is_passed_over_whole(self):
        answered = run(read(0, [0] * 300), deal(0, [FAR] * 300), suits(0, []), nth(0, 0, [1] * 300), read(0, NOTHING),
                       session(16, FAR, [-FAR] * 299), shown(0))
        self.assertEqual(answered[:6], [[-1], [-1], [-1], [-1], [0, 0, 0], [-1]])
        self.assertEqual(as_text(answered[6]), NOTHING)

    def test_boards_side_by_side(self):
        calls = [deal(b, [b % 10]) for b in range(16)]
        answered = run(*calls, rotate(3, 1), suits(4, [3, 2, 1, 0]), read(5, PART), *[number(b) for b in range(16)])
        for b in [0, 1, 2] + list(range(6, 16)):
            self.assertEqual(answered[19 + b], [0, b % 10])
        self.assertEqual(answered[19 + 5], [-3])
        self.assertNotEqual(answered[19 + 3], [0, 3])
        self.assertNotEqual(answered[19 + 4], [0, 4])

    def test_a_board_made_from_another_goes_its_own_way(self):
        answered = run(read(0, WHOLE), nth(0, 1, [0]), rotate(1, 1), suits(1, [1, 0, 2, 3]), shown(0),
                       rotate(0, 2), read(0, PART), shown(1))
        self.assertEqual(as_text(answered[4]), WHOLE)
        alone = run(read(0, WHOLE), rotate(0, 1), suits(0, [1, 0, 2, 3]), shown(0))
        self.assertEqual(answered[7], alone[3])

    def test_what_is_handed_in_stays_as_it_was(self):
        calls = read(0, PART) + nth(0, 0, [7]) + rotate(0, 1) + suits(0, [3, 2, 1, 0]) + session(1, 9, [5])
        calls += place(0, 1) + curtain(0, [3, 2, 1], [9, 9], [51, 0], [5]) + curtain(0, [3, 2, 1], [], [51, 0], [5])
        calls += hand(0, 0) + features(0, 3) + next_deal(0) + forget(0, 7) + chance(0, 7, 1) + meet(0, 0, 4) + sure(4)
        calls += clear(0) + know(0, 7, 1)
        before = list(calls)
        answers(calls)
        self.assertEqual(calls, before)

    def test_nothing_is_kept(self):
        calls = shown(0) + read(0, PART) + nth(0, 1, [7]) + rotate(0, 1) + shown(0) + number(1)
        calls += forget(0, 50) + know(0, 50, 2) + hand(0, 2) + next_deal(1) + features(1, 0) + forget(1, 0) + sure(1)
        calls += meet(1, 1, 2) + chance(0, 1, 1) + clear(0) + know(0, 1, 1)
        once = answers(calls)
        once_more = list(once)
        once.append(99)
        self.assertEqual(answers(calls), once_more)
        self.assertEqual(answers(shown(0)), [1, -2])

    def test_whole_numbers_alone_in_a_list(self):
        told = answers(read(0, PART) + shown(0) + count(0) + nth(0, 1, [0]) + number(1) + place(0, 1) + rotate(9, 9)
                       + suits(0, [3, 2, 1, 0]) + session(3, 1, [1]) + deal(2, [0]) + read(0, "X") + hand(2, 0)
                       + features(2, 0) + curtain(2, [0], [1], [2], [3]) + forget(2, 0) + chance(2, 0, 0)
                       + chance(2, 0, 1) + chance(2, 1, 0) + sure(2) + sure(2) + next_deal(2) + meet(2, 2, 4)
                       + clear(5) + know(5, 0, 0) + sure(5))
        self.assertIs(type(told), list)
        self.assertEqual({type(value) for value in told}, {int})

    def test_four_hundred_calls(self):
        calls = [read(0, NOTHING)]
        for turn in range(133):
            calls += [session(1, turn, [turn % 10]), place(0, 1), nth(0, 2, digits(ALL_DEALS - 1))]
        answered = run(*calls)
        self.assertEqual(len(answered), 400)
        self.assertEqual(answered[3::3], [[0]] * 133)
        self.assertEqual(as_text(last(*calls[:4], shown(2))), LAST)


if __name__ == "__main__":
    unittest.main()
