"""Which numbers of a frame are even, or miss by at most so much: how many below one, and the one with so many below."""

from likehalves.begun import need_bound, number_of, part_beginnings, stretches_below, weighted_sum
from likehalves.counted import count_spread_within, need_miss, ways_of_weights
from likehalves.errors import NoEven, NoNumber
from likehalves.frames import cut_by_parts, how_many, is_between, is_whole, misses_by, need_frame


def need_place(thing):
    if not is_whole(thing) or thing < 0:
        raise NoNumber("a place is a whole number from 0 on")


def need_near(frame, d, thing):
    if not is_between(thing, 0, how_many(frame) - 1) or misses_by(frame, thing) > d:
        raise NoEven("this is no number of the frame that misses by so little")


def tails_of_part(base, weights):
    # Place k tells the ways of the figures that are left behind the first k.
    return [ways_of_weights(base, weights[place:]) for place in range(len(weights) + 1)]


def tails_of_parts(frame):
    return [tails_of_part(frame[0], weights) for weights in cut_by_parts(frame, frame[2])]


def ways_from_beginnings(rows, weights, tails):
    ways = {}
    for row in rows:
        begun = weighted_sum(row, weights)
        tail = tails[len(row)]
        for total in tail:
            ways[begun + total] = ways.get(begun + total, 0) + tail[total]
    return ways


def count_begun(frame, tails_by_part, d, head, end):
    # The end is from 1 on, as no part is left without any way.
    beginnings = part_beginnings(frame, head, end)
    weights_by_part = cut_by_parts(frame, frame[2])
    ways_by_part = []
    for rows, weights, tails in zip(beginnings, weights_by_part, tails_by_part):
        ways_by_part.append(ways_from_beginnings(rows, weights, tails))
    return count_spread_within(ways_by_part, d)


def count_below(frame, tails_by_part, d, n):
    return sum([count_begun(frame, tails_by_part, d, head, end) for head, end in stretches_below(frame, n)])


def figure_and_rest(frame, tails_by_part, d, head, k):
    # Of the k near numbers ahead of the one looked for, those with a smaller figure here are passed by at once;
    # the rest begin with the same figure, too.
    figure = 0
    passed = 0
    beyond = frame[0]
    while beyond - figure > 1:
        middle = (figure + beyond) // 2
        count = count_begun(frame, tails_by_part, d, head, middle)
        if count <= k:
            figure = middle
            passed = count
        else:
            beyond = middle
    return (figure, k - passed)


def number_at(frame, tails_by_part, d, k):
    if k >= count_below(frame, tails_by_part, d, how_many(frame)):
        return None
    head = []
    rest = k
    for place in range(len(frame[2])):
        found = figure_and_rest(frame, tails_by_part, d, head, rest)
        head = head + [found[0]]
        rest = found[1]
    return number_of(frame[0], head)


def even_below(frame, n):
    return near_below(frame, 0, n)


def even_by(frame, k):
    return near_by(frame, 0, k)


def place_of(frame, n):
    return near_place(frame, 0, n)


def next_even(frame, n):
    need_frame(frame)
    need_bound(frame, n)
    tails_by_part = tails_of_parts(frame)
    return number_at(frame, tails_by_part, 0, count_below(frame, tails_by_part, 0, n))


def last_even(frame, n):
    need_frame(frame)
    need_bound(frame, n)
    tails_by_part = tails_of_parts(frame)
    count = count_below(frame, tails_by_part, 0, n)
    return number_at(frame, tails_by_part, 0, count - 1) if count > 0 else None


def near_below(frame, d, n):
    need_frame(frame)
    need_miss(d)
    need_bound(frame, n)
    return count_below(frame, tails_of_parts(frame), d, n)


def near_by(frame, d, k):
    need_frame(frame)
    need_miss(d)
    need_place(k)
    return number_at(frame, tails_of_parts(frame), d, k)


def near_place(frame, d, n):
    need_frame(frame)
    need_miss(d)
    need_near(frame, d, n)
    return count_below(frame, tails_of_parts(frame), d, n)
