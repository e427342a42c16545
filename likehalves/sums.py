"""The sum of the even numbers of a frame, and the least and the greatest sum that their parts have."""

from likehalves.begun import need_bound, number_of, part_beginnings, stretches_below, weighted_sum
from likehalves.counted import count_even_with, even_by_sums
from likehalves.frames import cut_by_parts, how_many, need_frame


def add_rows(by_sums, total, ways, worth):
    # By each sum stand in how many ways it comes, and what the rows of figures that come to it make as numbers in all.
    before = by_sums.get(total, (0, 0))
    by_sums[total] = (before[0] + ways, before[1] + worth)


def with_figure_ahead(tail, base, weight, stand):
    longer = {}
    for total in tail:
        ways = tail[total][0]
        worth = tail[total][1]
        for figure in range(base):
            add_rows(longer, total + figure * weight, ways, worth + figure * stand * ways)
    return longer


def stands_of(base, length):
    # Place k tells what a figure is worth that has k figures behind it.
    stands = [1]
    for place in range(length):
        stands.append(stands[-1] * base)
    return stands


def worth_tails(base, weights):
    # Place k tells the ways and the worth of the figures that are left behind the first k.
    stands = stands_of(base, len(weights))
    tails = [{0: (1, 0)}]
    for weight in reversed(weights):
        tails.append(with_figure_ahead(tails[-1], base, weight, stands[len(tails) - 1]))
    return list(reversed(tails))


def worth_from_beginnings(base, rows, weights, tails):
    by_sums = {}
    stands = stands_of(base, len(weights))
    for row in rows:
        begun = weighted_sum(row, weights)
        begun_worth = number_of(base, row) * stands[len(weights) - len(row)]
        tail = tails[len(row)]
        for total in tail:
            ways = tail[total][0]
            add_rows(by_sums, begun + total, ways, tail[total][1] + begun_worth * ways)
    return by_sums


def joined_worth(frame, sums_by_part):
    # Parts that come to the same sum go together in every way, so ways are multiplied and worths spread over them.
    joined = sums_by_part[0]
    for length, by_sums in list(zip(frame[1], sums_by_part))[1:]:
        stand = stands_of(frame[0], length)[-1]
        longer = {}
        for total in joined:
            if total in by_sums:
                ahead = joined[total]
                behind = by_sums[total]
                worth = ahead[1] * behind[0] * stand + ahead[0] * behind[1]
                longer[total] = (ahead[0] * behind[0], worth)
        joined = longer
    return sum([pair[1] for pair in joined.values()])


def worth_begun(frame, tails_by_part, head, end):
    beginnings = part_beginnings(frame, head, end)
    weights_by_part = cut_by_parts(frame, frame[2])
    sums_by_part = []
    for rows, weights, tails in zip(beginnings, weights_by_part, tails_by_part):
        sums_by_part.append(worth_from_beginnings(frame[0], rows, weights, tails))
    return joined_worth(frame, sums_by_part)


def sum_even(frame):
    return sum_even_below(frame, how_many(frame))


def sum_even_below(frame, n):
    need_frame(frame)
    need_bound(frame, n)
    tails_by_part = [worth_tails(frame[0], weights) for weights in cut_by_parts(frame, frame[2])]
    return sum([worth_begun(frame, tails_by_part, head, end) for head, end in stretches_below(frame, n)])


def least_sum(frame):
    # There is always one: 0 is even in every frame.
    return min(even_by_sums(frame))


def greatest_sum(frame):
    return max(even_by_sums(frame))


def first_row(base, weights, total):
    # The least figure is taken that leaves what those behind it can come to; the total is known to come.
    tails = worth_tails(base, weights)
    row = []
    rest = total
    for place, weight in enumerate(weights):
        tail = tails[place + 1]
        fitting = [figure for figure in range(base) if rest - figure * weight in tail]
        row.append(fitting[0])
        rest = rest - fitting[0] * weight
    return row


def first_greatest(frame):
    greatest = greatest_sum(frame)
    figures = []
    for weights in cut_by_parts(frame, frame[2]):
        # Parts with the same sum are free of one another, so each one is least by itself.
        figures.extend(first_row(frame[0], weights, greatest))
    return (number_of(frame[0], figures), count_even_with(frame, greatest))
