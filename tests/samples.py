"""What several tests need: frames, things that are none, and going through all numbers one by one."""

import copy
import itertools
import unittest

SMALL_FRAMES = [
    (2, [1, 1], [1, 1]),
    (2, [1, 1], [0, 0]),
    (2, [1, 1], [9, -9]),
    (2, [6, 6], [1, 1, 1, 1, 1, 1, 1, 1, 1, 1, 1, 1]),
    (2, [6, 1], [-9, 0, 9, 1, -1, 2, 3]),
    (2, [1, 6, 2], [2, -9, 0, 9, 1, -1, 2, 3, 1]),
    (2, [3, 3, 3, 3], [1, 2, 3, -1, 2, -3, 0, 0, 5, 9, -9, 4]),
    (2, [1, 1, 1, 1], [1, -1, 2, 9]),
    (3, [2, 1, 2, 1], [1, 1, 2, 0, 2, -1]),
    (3, [1, 5], [9, -9, 0, 9, 1, 2]),
    (4, [2, 2, 1], [-1, -2, 3, -4, -5]),
    (5, [2, 2], [3, 5, -2, 7]),
    (7, [1, 2, 1], [6, -1, 3, 4]),
    (10, [1, 1], [1, 1]),
    (10, [2, 1], [1, -1, 2]),
    (10, [1, 1, 1, 1], [1, 2, 1, 2]),
    (10, [2, 2], [0, 0, 0, 0]),
    (16, [1, 1], [9, -9]),
    (16, [1, 1], [9, 9]),
    (16, [1, 2], [-9, 0, 5]),
    (16, [1, 1, 1], [1, 2, 3]),
]

# Two parts: too many numbers to go through often, but few values of each part.
MIDDLE_FRAMES = [
    (16, [3, 3], [1, 2, 3, 3, -1, 2]),
    (16, [3, 3], [9, -9, 9, -9, 9, -9]),
    (10, [4, 3], [1, 1, 1, 1, 2, 2, 2]),
    (7, [2, 4], [0, 9, -1, 2, -3, 4]),
]

BIGGEST_PARTS = [6, 6, 6, 6]
BIG_FRAMES = [
    (16, list(BIGGEST_PARTS), [1] * 24),
    (16, list(BIGGEST_PARTS), [9] * 6 + [-9] * 6 + [1] * 12),
    (16, list(BIGGEST_PARTS), [9, -9, 0, 1, -1, 5] * 4),
    (16, list(BIGGEST_PARTS), [9] * 6 + [-9, 9, -9, 9, 0, 1] + [-9] * 6 + [2, 3, 5, 7, -8, 4]),
    (16, list(BIGGEST_PARTS), [0] * 24),
]

# No frames, each one near to a frame or to nothing at all, for asking what is refused first.
A_FEW_WRONG_FRAMES = [
    None, True, [10, [1, 1], [1, 1]], (10, (1, 1), [1, 1]), (10, [1, 1], [1, 10]), (17, [1, 1], [1, 1]),
]

# Neither whole numbers nor anything near to it.
NO_WHOLES = [
    True, False, None, "", "0", "1", "abc", [], [0], [1], (), (0,), (1, 2), {}, {0: 1}, {"a": []},
    [[0]], ([1],), [[[[0]]]], {0: {0: [1]}}, set(), {1}, frozenset([1]), b"1", object(), int, len, range(3),
]


class RefusalCase(unittest.TestCase):
    def assert_refused(self, refusal, asked, *things):
        with self.assertRaises(refusal) as caught:
            asked(*things)
        self.assertIs(type(caught.exception), refusal)


def copied(thing):
    return copy.deepcopy(thing)


def frame_with_base(base):
    return (base, [1, 2], [1, 1, 1])


def frame_with_parts(parts):
    return (10, parts, [1, 1, 1])


def frame_with_weights(weights):
    return (10, [1, 2], weights)


def wrong_frames():
    fine = (10, [1, 2], [1, 1, 1])
    wrong = list(NO_WHOLES) + [0, 1, -1, 10, 10 ** 25]
    wrong += [list(fine), [fine], (fine,), (fine, fine, fine), {0: 10, 1: [1, 2], 2: [1, 1, 1]}, "10:1+2:1 1 1"]
    wrong += [fine[:2], fine[:1], fine + (1,), fine + ([],), (fine[0], fine[2], fine[1]), ([1, 2], 10, [1, 1, 1])]
    wrong += [frame_with_base(base) for base in NO_WHOLES + [1, 0, -1, -2, -10, 17, 10 ** 25]]
    wrong += [frame_with_parts(parts) for parts in NO_WHOLES + [0, 3, 10 ** 25]]
    wrong += [frame_with_weights(weights) for weights in NO_WHOLES + [0, 3, 10 ** 25]]
    wrong += [frame_with_parts((1, 2)), frame_with_parts({1: 1, 2: 2}), frame_with_parts("12")]
    wrong += [frame_with_weights((1, 1, 1)), frame_with_weights({0: 1, 1: 1, 2: 1}), frame_with_weights("111")]
    wrong += [frame_with_parts([3]), frame_with_parts([1, 1]), frame_with_parts([2, 2]), frame_with_parts([[1, 2]])]
    wrong += [frame_with_weights([1, 1]), frame_with_weights([1] * 4), frame_with_weights([[1, 1, 1]])]
    wrong += [(10, [1], [1]), (10, [6], [1] * 6), (10, [1] * 5, [1] * 5), (10, [], []), (10, [1] * 50, [1] * 50)]
    wrong += [(10, [0, 1], [1]), (10, [1, 0], [1]), (10, [-1, 2], [1]), (10, [7, 1], [1] * 8)]
    wrong += [(10, [1, 7], [1] * 8), (10, [-1, 4], [1] * 3), (10, [4, -1], [1] * 3), (10, [0, 3], [1] * 3)]
    wrong += [(10, [1, 1, 0], [1, 1]), (10, [1, 1, 7], [1] * 9), (10, [10 ** 25, 1], [1])]
    for thing in NO_WHOLES:
        wrong += [(10, [thing, 2], [1, 1, 1]), (10, [1, thing], [1, 1, 1]), (10, [2, thing], [1, 1, 1])]
        wrong += [(10, [1, 2], [thing, 1, 1]), (10, [1, 2], [1, thing, 1]), (10, [1, 2], [1, 1, thing])]
    for weight in [10, -10, 11, -100, 10 ** 25, -10 ** 25]:
        wrong += [frame_with_weights([weight, 1, 1]), frame_with_weights([1, weight, 1]),
                  frame_with_weights([1, 1, weight])]
    return wrong


def all_part_sums(frame):
    """The part sums of every number of the frame, the numbers rising, by walking all rows of figures."""
    told = []
    for row in itertools.product(range(frame[0]), repeat=sum(frame[1])):
        sums = []
        start = 0
        for length in frame[1]:
            places = range(start, start + length)
            sums.append(sum(row[place] * frame[2][place] for place in places))
            start += length
        told.append(sums)
    return told


def sums_of_values(base, weights):
    """The sums of all rows of so many figures, the rows rising."""
    told = [0]
    for weight in weights:
        told = [total + figure * weight for total in told for figure in range(base)]
    return told


def signs_turned(frame):
    return (frame[0], list(frame[1]), [-weight for weight in frame[2]])
