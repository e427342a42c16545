"""Numbers of a frame that begin with the same figures: what which and sums both go by."""

from likehalves.errors import NoNumber
from likehalves.frames import figures_of, how_many, is_between


def need_bound(frame, thing):
    # How many the frame has is let, though no number of it: all of its numbers lie below.
    if not is_between(thing, 0, how_many(frame)):
        raise NoNumber("this is neither a number of the frame nor how many it has")


def stretches_below(frame, n):
    # A number below n has the figures of n up to some place, the head, and there one below the end, that of n.
    if n == how_many(frame):
        return [([], frame[0])]
    figures = figures_of(frame, n)
    return [(figures[:place], figures[place]) for place in range(len(figures)) if figures[place] > 0]


def part_beginnings(frame, head, end):
    # The figure behind the head is any below the end; parts behind it are not begun, so they have one empty row.
    beginnings = []
    start = 0
    for length in frame[1]:
        given = head[start:start + length]
        if start <= len(head) < start + length:
            beginnings.append([given + [figure] for figure in range(end)])
        else:
            beginnings.append([given])
        start = start + length
    return beginnings


def weighted_sum(figures, weights):
    # The weights may go on where the figures end.
    return sum([figure * weight for figure, weight in zip(figures, weights)])


def number_of(base, figures):
    number = 0
    for figure in figures:
        number = number * base + figure
    return number
