"""Calls on boards kept side by side, and what is answered.

Each answer_ function is handed the boards, a dict from a board's number to its deal, and a call's plain
arguments and rows, which are in their ranges. It gives back the numbers that are answered.
"""

from dealboards.deals import fits, is_whole, known_cards, nothing_known, rotated, with_suits
from dealboards.ordering import count_of_all, count_of_fits, digits_of, fit_with_place
from dealboards.ordering import number_below, place_among_fits, session_number
from dealboards.texts import TextFault, deal_from_text, text_of_deal

DONE = 0
OUT_OF_RANGE = -1
NO_BOARD = -2
NOT_WHOLE = -3
NO_SUCH_NUMBER = -4
UNLIKE = -5
NOT_ALL_SUITS = -6


def answer_read(boards, plain, rows):
    try:
        deal = deal_from_text(rows[0])
    except TextFault as fault:
        return [DONE, fault.kind, fault.place]
    boards[plain[0]] = deal
    return [DONE, 0, known_cards(deal)]


def answer_shown(boards, plain, rows):
    return [DONE] + text_of_deal(boards[plain[0]])


def answer_count(boards, plain, rows):
    return [DONE] + digits_of(count_of_fits(boards[plain[0]]))


def answer_number(boards, plain, rows):
    deal = boards[plain[0]]
    if not is_whole(deal):
        return [NOT_WHOLE]
    return [DONE] + digits_of(place_among_fits(nothing_known(), deal))


def answer_deal(boards, plain, rows):
    number = number_below(rows[0], count_of_all())
    if number is None:
        return [NO_SUCH_NUMBER]
    boards[plain[0]] = fit_with_place(nothing_known(), number)
    return [DONE]


def answer_nth(boards, plain, rows):
    deal = boards[plain[0]]
    number = number_below(rows[0], count_of_fits(deal))
    if number is None:
        return [NO_SUCH_NUMBER]
    boards[plain[1]] = fit_with_place(deal, number)
    return [DONE]


def answer_place(boards, plain, rows):
    if plain[1] not in boards:
        return [NO_BOARD]
    deal = boards[plain[0]]
    whole = boards[plain[1]]
    if not is_whole(whole):
        return [NOT_WHOLE]
    if not fits(whole, deal):
        return [UNLIKE]
    return [DONE] + digits_of(place_among_fits(deal, whole))


def answer_session(boards, plain, rows):
    start = number_below(rows[0], count_of_all())
    if start is None:
        return [NO_SUCH_NUMBER]
    boards[plain[0]] = fit_with_place(nothing_known(), session_number(start, plain[1]))
    return [DONE]


def answer_rotate(boards, plain, rows):
    boards[plain[0]] = rotated(boards[plain[0]], plain[1])
    return [DONE]


def answer_suits(boards, plain, rows):
    if sorted(rows[0]) != [0, 1, 2, 3]:
        return [NOT_ALL_SUITS]
    boards[plain[0]] = with_suits(boards[plain[0]], rows[0])
    return [DONE]


# For each call, by its number: what answers it, whether board b must be there, the highest value of each
# plain argument, and of each row the least and the greatest length and the highest number in it.
# The lowest value is 0 everywhere.
FORMS = (
    (answer_read, False, (15,), ((0, 200, 255),)),
    (answer_shown, True, (15,), ()),
    (answer_count, True, (15,), ()),
    (answer_number, True, (15,), ()),
    (answer_deal, False, (15,), ((0, 40, 9),)),
    (answer_nth, True, (15, 15), ((0, 40, 9),)),
    (answer_place, True, (15, 15), ()),
    (answer_session, False, (15, 1000000000), ((0, 40, 9),)),
    (answer_rotate, True, (15, 3), ()),
    (answer_suits, True, (15,), ((4, 4, 3),)),
)


class CallReader:
    """The list of calls, and the place up to which it was read."""

    def __init__(self, calls):
        self.calls = calls
        self.at = 0

    def has_more(self):
        return self.at < len(self.calls)

    def take_numbers(self, how_many):
        first = self.at
        self.at += how_many
        return self.calls[first:self.at]

    def take_row(self):
        length = self.take_numbers(1)[0]
        return self.take_numbers(length)

    def take_rows(self, how_many):
        rows = []
        while len(rows) < how_many:
            rows.append(self.take_row())
        return rows


def in_range(number, highest):
    return 0 <= number and number <= highest


def plain_in_range(plain, bounds):
    return all([in_range(number, highest) for number, highest in zip(plain, bounds)])


def row_in_range(row, shape):
    return shape[0] <= len(row) and len(row) <= shape[1] and all([in_range(number, shape[2]) for number in row])


def rows_in_range(rows, shapes):
    return all([row_in_range(row, shape) for row, shape in zip(rows, shapes)])


def answer_next_call(reader, boards):
    """Takes one call from the reader and gives back the numbers that are answered."""
    form = FORMS[reader.take_numbers(1)[0]]
    plain = reader.take_numbers(len(form[2]))
    rows = reader.take_rows(len(form[3]))
    if not plain_in_range(plain, form[2]) or not rows_in_range(rows, form[3]):
        return [OUT_OF_RANGE]
    if form[1] and plain[0] not in boards:
        return [NO_BOARD]
    answer = form[0]
    return answer(boards, plain, rows)


def answers(calls):
    """What is answered to a list of calls, one behind another: each answer behind how many numbers it has."""
    reader = CallReader(calls)
    boards = {}
    told = []
    while reader.has_more():
        answer = answer_next_call(reader, boards)
        told.append(len(answer))
        told.extend(answer)
    return told
