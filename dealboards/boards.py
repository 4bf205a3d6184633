"""Calls on boards kept side by side, and what is answered.

Each answer_ function is handed the boards, a dict from a board's number to its deal, and a call's plain
arguments and rows, which are in their ranges. It gives back the numbers that are answered.
"""

from dealboards.chances import chance_of
from dealboards.deals import NOBODY, SEATS, cards_of, fits, is_whole, joined, known_cards, nothing_known, room_of
from dealboards.deals import rotated, seats_with_room, unknown_cards, with_holder, with_rest, with_suits
from dealboards.hands import features_of
from dealboards.ordering import count_of_all, count_of_fits, digits_of, fit_with_place
from dealboards.ordering import number_below, place_among_fits, session_number
from dealboards.texts import TextFault, deal_from_text, text_of_deal

DONE = 0
OUT_OF_RANGE = -1
NO_BOARD = -2
NOT_WHOLE = -3
NO_SUCH_NUMBER = -4
AT_ODDS = -5
NOT_ALL_SUITS = -6
CARD_TWICE = -7
NO_ROOM = -8


def answer_read(boards, plain, rows):
    try:
        deal = deal_from_text(rows[0])
    except TextFault as fault:
        return [DONE, fault.kind, fault.place]
    boards[plain[0]] = deal
    return [DONE, 0, known_cards(deal)]


def answer_shown(boards, plain, rows):
    return [DONE] + text_of_deal(boards[plain[0]])


def answer_count(boards, plain, rows):
    return [DONE] + digits_of(count_of_fits(boards[plain[0]]))


def answer_number(boards, plain, rows):
    deal = boards[plain[0]]
    if not is_whole(deal):
        return [NOT_WHOLE]
    return [DONE] + digits_of(place_among_fits(nothing_known(), deal))


def answer_deal(boards, plain, rows):
    number = number_below(rows[0], count_of_all())
    if number is None:
        return [NO_SUCH_NUMBER]
    boards[plain[0]] = fit_with_place(nothing_known(), number)
    return [DONE]


def answer_nth(boards, plain, rows):
    deal = boards[plain[0]]
    number = number_below(rows[0], count_of_fits(deal))
    if number is None:
        return [NO_SUCH_NUMBER]
    boards[plain[1]] = fit_with_place(deal, number)
    return [DONE]


def answer_place(boards, plain, rows):
    if plain[1] not in boards:
        return [NO_BOARD]
    deal = boards[plain[0]]
    whole = boards[plain[1]]
    if not is_whole(whole):
        return [NOT_WHOLE]
    if not fits(whole, deal):
        return [AT_ODDS]
    return [DONE] + digits_of(place_among_fits(deal, whole))


def answer_session(boards, plain, rows):
    start = number_below(rows[0], count_of_all())
    if start is None:
        return [NO_SUCH_NUMBER]
    boards[plain[0]] = fit_with_place(nothing_known(), session_number(start, plain[1]))
    return [DONE]


def answer_rotate(boards, plain, rows):
    boards[plain[0]] = rotated(boards[plain[0]], plain[1])
    return [DONE]


def answer_suits(boards, plain, rows):
    if sorted(rows[0]) != [0, 1, 2, 3]:
        return [NOT_ALL_SUITS]
    boards[plain[0]] = with_suits(boards[plain[0]], rows[0])
    return [DONE]


def answer_hand(boards, plain, rows):
    return [DONE] + cards_of(boards[plain[0]], plain[1])


def answer_features(boards, plain, rows):
    deal = boards[plain[0]]
    if room_of(deal, plain[1]) > 0:
        return [NOT_WHOLE]
    return [DONE] + features_of(cards_of(deal, plain[1]))


def tells_twice(row):
    """Whether the row tells a card twice."""
    return len(set(row)) < len(row)


def behind_length(cards):
    return [len(cards)] + cards


def answer_curtain(boards, plain, rows):
    deal = boards[plain[0]]
    if not is_whole(deal):
        return [NOT_WHOLE]
    if any([tells_twice(row) for row in rows]):
        return [CARD_TWICE]
    told = [DONE]
    for seat in range(SEATS):
        found = rows[seat]
        missing = [card for card in cards_of(deal, seat) if card not in found]
        strange = sorted([card for card in found if deal[card] != seat])
        told.extend(behind_length(missing) + behind_length(strange))
    return told


def answer_know(boards, plain, rows):
    deal = boards[plain[0]]
    if deal[plain[1]] != NOBODY:
        return [AT_ODDS]
    if room_of(deal, plain[2]) == 0:
        return [NO_ROOM]
    boards[plain[0]] = with_holder(deal, plain[1], plain[2])
    return [DONE]


def answer_forget(boards, plain, rows):
    deal = boards[plain[0]]
    if deal[plain[1]] == NOBODY:
        return [AT_ODDS]
    boards[plain[0]] = with_holder(deal, plain[1], NOBODY)
    return [DONE]


def answer_meet(boards, plain, rows):
    if plain[1] not in boards:
        return [NO_BOARD]
    both = joined(boards[plain[0]], boards[plain[1]])
    if both is None:
        return [AT_ODDS]
    boards[plain[2]] = both
    return [DONE]


def answer_clear(boards, plain, rows):
    boards[plain[0]] = nothing_known()
    return [DONE]


def answer_chance(boards, plain, rows):
    return [DONE] + chance_of(boards[plain[0]], plain[1], plain[2])


def answer_next(boards, plain, rows):
    deal = boards[plain[0]]
    if not is_whole(deal):
        return [NOT_WHOLE]
    number = place_among_fits(nothing_known(), deal) + 1
    if number == count_of_all():
        return [NO_SUCH_NUMBER]
    boards[plain[0]] = fit_with_place(nothing_known(), number)
    return [DONE]


def answer_sure(boards, plain, rows):
    deal = boards[plain[0]]
    seats = seats_with_room(deal)
    if len(seats) != 1:
        return [DONE, 0]
    boards[plain[0]] = with_rest(deal, seats[0])
    return [DONE, unknown_cards(deal)]


# For each call, by its number: what answers it, whether board b must be there, the highest value of each
# plain argument, and of each row the least and the greatest length and the highest number in it.
# The lowest value is 0 everywhere.
FORMS = (
    (answer_read, False, (15,), ((0, 200, 255),)),
    (answer_shown, True, (15,), ()),
    (answer_count, True, (15,), ()),
    (answer_number, True, (15,), ()),
    (answer_deal, False, (15,), ((0, 40, 9),)),
    (answer_nth, True, (15, 15), ((0, 40, 9),)),
    (answer_place, True, (15, 15), ()),
    (answer_session, False, (15, 1000000000), ((0, 40, 9),)),
    (answer_rotate, True, (15, 3), ()),
    (answer_suits, True, (15,), ((4, 4, 3),)),
    (answer_hand, True, (15, 3), ()),
    (answer_features, True, (15, 3), ()),
    (answer_curtain, True, (15,), ((0, 52, 51), (0, 52, 51), (0, 52, 51), (0, 52, 51))),
    (answer_know, True, (15, 51, 3), ()),
    (answer_forget, True, (15, 51), ()),
    (answer_meet, True, (15, 15, 15), ()),
    (answer_clear, False, (15,), ()),
    (answer_chance, True, (15, 51, 3), ()),
    (answer_next, True, (15,), ()),
    (answer_sure, True, (15,), ()),
)


class CallReader:
    """The list of calls, and the place up to which it was read."""

    def __init__(self, calls):
        self.calls = calls
        self.at = 0

    def has_more(self):
        return self.at < len(self.calls)

    def take_numbers(self, how_many):
        first = self.at
        self.at += how_many
        return self.calls[first:self.at]

    def take_row(self):
        length = self.take_numbers(1)[0]
        return self.take_numbers(length)

    def take_rows(self, how_many):
        rows = []
        while len(rows) < how_many:
            rows.append(self.take_row())
        return rows


def in_range(number, highest):
    return 0 <= number and number <= highest


def plain_in_range(plain, bounds):
    return all([in_range(number, highest) for number, highest in zip(plain, bounds)])


def row_in_range(row, shape):
    return shape[0] <= len(row) and len(row) <= shape[1] and all([in_range(number, shape[2]) for number in row])


def rows_in_range(rows, shapes):
    return all([row_in_range(row, shape) for row, shape in zip(rows, shapes)])


def answer_one_call(reader, boards):
    """Takes one call from the reader and gives back the numbers that are answered."""
    form = FORMS[reader.take_numbers(1)[0]]
    plain = reader.take_numbers(len(form[2]))
    rows = reader.take_rows(len(form[3]))
    if not plain_in_range(plain, form[2]) or not rows_in_range(rows, form[3]):
        return [OUT_OF_RANGE]
    if form[1] and plain[0] not in boards:
        return [NO_BOARD]
    answer = form[0]
    return answer(boards, plain, rows)


def answers(calls):
    """What is answered to a list of calls, one behind another: each answer behind how many numbers it has."""
    reader = CallReader(calls)
    boards = {}
    told = []
    while reader.has_more():
        answer = answer_one_call(reader, boards)
        told.append(len(answer))
        told.extend(answer)
    return told
