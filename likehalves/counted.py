"""How many numbers of a frame are even, or miss by so much, counted by the sums of the parts."""

from likehalves.errors import NoMiss, NoPart, NoSum
from likehalves.frames import cut_by_parts, is_whole, need_frame


def with_one_more_figure(ways, base, weight):
    longer = {}
    for total in ways:
        for figure in range(base):
            reached = total + figure * weight
            longer[reached] = longer.get(reached, 0) + ways[total]
    return longer


def ways_of_weights(base, weights):
    ways = {0: 1}
    for weight in weights:
        ways = with_one_more_figure(ways, base, weight)
    return dict([(total, ways[total]) for total in sorted(ways)])


def ways_of_parts(frame):
    return [ways_of_weights(frame[0], weights) for weights in cut_by_parts(frame, frame[2])]


def ways_with(ways_by_part, total):
    many = 1
    for ways in ways_by_part:
        many = many * ways.get(total, 0)
    return many


def ways_of_part(frame, part):
    need_frame(frame)
    if not is_whole(part) or not 0 <= part < len(frame[1]):
        raise NoPart("no part stands at this place")
    return ways_of_weights(frame[0], cut_by_parts(frame, frame[2])[part])


def even_by_sums(frame):
    need_frame(frame)
    ways_by_part = ways_of_parts(frame)
    even = {}
    for total in ways_by_part[0]:
        many = ways_with(ways_by_part, total)
        if many > 0:
            even[total] = many
    return even


def count_even(frame):
    return sum(even_by_sums(frame).values())


def count_even_with(frame, s):
    need_frame(frame)
    if not is_whole(s):
        raise NoSum("a sum is a whole number")
    return ways_with(ways_of_parts(frame), s)


def need_miss(thing):
    if not is_whole(thing) or thing < 0:
        raise NoMiss("a miss is a whole number from 0 on")


def running_counts(ways, low, high):
    # Place k tells in how many ways the sum lies from low on and below low + k.
    counts = [0]
    for total in range(low, high + 1):
        counts.append(counts[-1] + ways.get(total, 0))
    return counts


def ways_within(running_by_part, start, end):
    many = 1
    for running in running_by_part:
        many = many * (running[end] - running[start])
    return many


def count_spread_within(ways_by_part, width):
    leasts = [min(ways) for ways in ways_by_part]
    greatests = [max(ways) for ways in ways_by_part]
    # No spread is greater than this, and a miss asked for may be far beyond it.
    reach = min(width, max(greatests) - min(leasts))
    # A number's least sum is in reach of every part's sums, and above none of them all.
    first = max(min(leasts), max(leasts) - reach)
    last = min(greatests)
    running_by_part = [running_counts(ways, first, last + reach) for ways in ways_by_part]
    count = 0
    # Each number is counted once, at its least sum: all sums from there on, less those that all lie above it.
    for start in range(last - first + 1):
        end = start + reach + 1
        count += ways_within(running_by_part, start, end) - ways_within(running_by_part, start + 1, end)
    return count


def count_near(frame, d):
    need_frame(frame)
    need_miss(d)
    return count_spread_within(ways_of_parts(frame), d)


def count_missing(frame, d):
    need_frame(frame)
    need_miss(d)
    ways_by_part = ways_of_parts(frame)
    if d == 0:
        return count_spread_within(ways_by_part, 0)
    return count_spread_within(ways_by_part, d) - count_spread_within(ways_by_part, d - 1)
