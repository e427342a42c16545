"""A Desk: frames by names, changed and asked by rows of words."""

from likehalves.counted import count_even, count_near
from likehalves.errors import NoName, NoRow
from likehalves.frames import misses_by, part_sums
from likehalves.keeper import with_weight
from likehalves.texts import is_written, is_written_with_sign, joined_by, read_frame, show_frame
from likehalves.which import even_below, even_by, last_even, next_even

LETTERS = "abcdefghijklmnopqrstuvwxyz"
MOST_LETTERS = 8

# What stands behind the NAME, by the first word of a row.
ROWS = {
    "frame": ("TEXT",), "weigh": ("P", "W"), "drop": (), "many": (), "below": ("N",), "nth": ("K",), "next": ("N",),
    "last": ("N",), "miss": ("N",), "near": ("D",), "sums": ("N",), "show": (),
}
MOST_FIGURES = {"N": 30, "K": 30, "D": 4, "P": 2, "W": 2}


def is_name(word):
    return 1 <= len(word) <= MOST_LETTERS and all([letter in LETTERS for letter in word])


def fits(thing, word):
    if thing == "TEXT":
        # Whether it writes a frame is asked later: a TEXT that writes none is refused otherwise than a wrong row.
        return True
    if thing == "W":
        return is_written_with_sign(word, MOST_FIGURES[thing])
    return is_written(word, MOST_FIGURES[thing])


def is_row(words):
    if words[0] not in ROWS or len(words) != len(ROWS[words[0]]) + 2 or not is_name(words[1]):
        return False
    return all([fits(thing, word) for thing, word in zip(ROWS[words[0]], words[2:])])


def words_of(row):
    # Blanks stand in a TEXT, too, so that no more than two of them part the words ahead of it.
    return row.split(" ", 2) if row.startswith("frame ") else row.split(" ")


def read_row(row):
    if not isinstance(row, str) or not is_row(words_of(row)):
        raise NoRow("this is no row of a desk")
    return words_of(row)


def number_or_none(number):
    return "none" if number is None else str(number)


def answer_with_number(frame, word, number):
    if word == "below":
        return str(even_below(frame, number))
    if word == "nth":
        return number_or_none(even_by(frame, number))
    if word == "next":
        return number_or_none(next_even(frame, number))
    if word == "last":
        return number_or_none(last_even(frame, number))
    if word == "miss":
        return str(misses_by(frame, number))
    if word == "near":
        return str(count_near(frame, number))
    return joined_by(" ", part_sums(frame, number))


def answer(frame, words):
    if words[0] == "show":
        return show_frame(frame)
    if words[0] == "many":
        return str(count_even(frame))
    return answer_with_number(frame, words[0], int(words[2]))


class Desk:
    def __init__(self):
        self.by_name = {}

    def names(self):
        return sorted(self.by_name)

    def say(self, row):
        words = read_row(row)
        if words[0] == "frame":
            self.by_name[words[1]] = read_frame(words[2])
            return "ok"
        if words[1] not in self.by_name:
            raise NoName("no frame stands by this name")
        frame = self.by_name[words[1]]
        if words[0] == "weigh":
            self.by_name[words[1]] = with_weight(frame, int(words[2]), int(words[3]))
            return "ok"
        if words[0] == "drop":
            self.by_name.pop(words[1])
            return "ok"
        return answer(frame, words)
