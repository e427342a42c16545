"""Frames, tuples (base, parts, weights), and what they make of a number."""

from likehalves.errors import NoFrame, NoNumber


def is_whole(thing):
    # Python counts True and False among the ints; the document doesn't.
    return isinstance(thing, int) and not isinstance(thing, bool)


def is_between(thing, least, greatest):
    return is_whole(thing) and least <= thing <= greatest


def is_list_between(thing, least, greatest):
    return isinstance(thing, list) and all([is_between(each, least, greatest) for each in thing])


def is_frame(thing):
    if not isinstance(thing, tuple) or len(thing) != 3:
        return False
    if not is_between(thing[0], 2, 16):
        return False
    if not is_list_between(thing[1], 1, 6) or not 2 <= len(thing[1]) <= 4:
        return False
    return is_list_between(thing[2], -9, 9) and len(thing[2]) == sum(thing[1])


def need_frame(thing):
    if not is_frame(thing):
        raise NoFrame("this is no frame")


def how_many(frame):
    need_frame(frame)
    many = 1
    for place in range(len(frame[2])):
        many = many * frame[0]
    return many


def need_number(frame, thing):
    if not is_between(thing, 0, how_many(frame) - 1):
        raise NoNumber("this is no number of the frame")


def cut_by_parts(frame, row):
    pieces = []
    start = 0
    for length in frame[1]:
        pieces.append(row[start:start + length])
        start = start + length
    return pieces


def figures_of(frame, n):
    need_frame(frame)
    need_number(frame, n)
    figures = []
    rest = n
    for place in range(len(frame[2])):
        figures.append(rest % frame[0])
        rest = rest // frame[0]
    return list(reversed(figures))


def part_sums(frame, n):
    figures = figures_of(frame, n)
    weighted = [figure * weight for figure, weight in zip(figures, frame[2])]
    return [sum(piece) for piece in cut_by_parts(frame, weighted)]


def misses_by(frame, n):
    totals = part_sums(frame, n)
    return max(totals) - min(totals)


def is_even(frame, n):
    return misses_by(frame, n) == 0
