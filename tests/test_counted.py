import itertools
import unittest
from collections import Counter

from likehalves.counted import count_even, count_even_with, count_missing, count_near, even_by_sums, ways_of_part
from likehalves.errors import NoFrame, NoMiss, NoPart, NoSum
from likehalves.frames import how_many, is_even, misses_by, part_sums
from samples import (A_FEW_WRONG_FRAMES, BIG_FRAMES, NO_WHOLES, SMALL_FRAMES, RefusalCase, all_part_sums, copied,
                     signs_turned, wrong_frames)

OF_A_MISS = [count_missing, count_near]
WITH_TWO = [ways_of_part, count_even_with, count_missing, count_near]
ALONE = [count_even, even_by_sums]
TICKET = (10, [3, 3], [1, 1, 1, 1, 1, 1])
FAR = 10 ** 25
# Parts that pull apart as far as may be: only 0 is even.
APART = (16, [6, 6, 6, 6], [9] * 6 + [-9] * 6 + [1] * 12)


def times(factors):
    made = 1
    for factor in factors:
        made *= factor
    return made


def ways_one_by_one(base, weights):
    rows = itertools.product(range(base), repeat=len(weights))
    return dict(Counter(sum(figure * weight for figure, weight in zip(row, weights)) for row in rows))


def ways_in_a_row(base, weights):
    """Place k tells the ways to come to k - 810: one long list, another way than a dict by sums."""
    row = [0] * 1621
    row[810] = 1
    for weight in weights:
        longer = [0] * 1621
        for figure in range(base):
            shift = figure * weight
            for place in range(max(0, -shift), min(1621, 1621 - shift)):
                longer[place + shift] += row[place]
        row = longer
    return row


def rows_of_parts(frame):
    rows = []
    start = 0
    for length in frame[1]:
        rows.append(ways_in_a_row(frame[0], frame[2][start:start + length]))
        start += length
    return rows


def missing_by_ends(rows, d):
    """Those with the least sum just at a place and the greatest just d above, by leaving out either end."""
    count = 0
    for least in range(1621 - d):
        ends = [row[least] for row in rows], [row[least + d] for row in rows]
        if d == 0:
            count += times(ends[0])
            continue
        if not any(ends[0]) or not any(ends[1]):
            continue
        between = [sum(row[least + 1:least + d]) for row in rows]
        for picks in itertools.product(range(3), repeat=len(rows)):
            if 0 in picks and 2 in picks:
                count += times([(ends[0][k], between[k], ends[1][k])[pick] for k, pick in enumerate(picks)])
    return count


class SmallFramesTest(unittest.TestCase):
    def test_ways_of_each_part(self):
        for frame in SMALL_FRAMES:
            start = 0
            for part, length in enumerate(frame[1]):
                with self.subTest(frame=frame, part=part):
                    expected = ways_one_by_one(frame[0], frame[2][start:start + length])
                    self.assertEqual(ways_of_part(frame, part), expected)
                start += length

    def test_even_ones_and_those_with_each_sum(self):
        for frame in SMALL_FRAMES:
            with self.subTest(frame=frame):
                even = Counter(sums[0] for sums in all_part_sums(frame) if len(set(sums)) == 1)
                self.assertEqual(even_by_sums(frame), dict(even))
                self.assertEqual(count_even(frame), sum(even.values()))
                for total in range(-850, 851):
                    if total % 50 == 0 or -60 < total < 60 or total in even:
                        self.assertEqual(count_even_with(frame, total), even.get(total, 0))

    def test_those_that_miss_by_just_and_by_at_most_so_much(self):
        for frame in SMALL_FRAMES:
            misses = Counter(max(sums) - min(sums) for sums in all_part_sums(frame))
            at_most = 0
            for d in range(max(misses) + 4):
                with self.subTest(frame=frame, d=d):
                    at_most += misses[d]
                    self.assertEqual(count_missing(frame, d), misses[d])
                    self.assertEqual(count_near(frame, d), at_most)

    def test_as_the_frames_tell_of_each_number(self):
        for frame in SMALL_FRAMES:
            numbers = range(how_many(frame))
            self.assertEqual(count_even(frame), sum(is_even(frame, n) for n in numbers))
            self.assertEqual(count_near(frame, 2), sum(misses_by(frame, n) <= 2 for n in numbers))
            self.assertEqual(count_missing(frame, 2), sum(misses_by(frame, n) == 2 for n in numbers))
            zeros = sum(set(part_sums(frame, n)) == {0} for n in numbers)
            self.assertEqual(count_even_with(frame, 0), zeros)


class KnownCountsTest(unittest.TestCase):
    def test_lucky_tickets(self):
        known = [10, 670, 55252, 4816030, 432457640, 39581170420]
        for length, count in enumerate(known, start=1):
            self.assertEqual(count_even((10, [length, length], [1] * (2 * length))), count)

    def test_a_ticket(self):
        self.assertEqual(count_even_with(TICKET, 0), 1)
        self.assertEqual(count_even_with(TICKET, 13), 75 ** 2)
        self.assertEqual(count_even_with(TICKET, 27), 1)
        self.assertEqual(count_even_with(TICKET, 28), 0)
        self.assertEqual(count_even_with(TICKET, -1), 0)
        self.assertEqual(even_by_sums((10, [1, 1], [1, -1])), {0: 1})
        self.assertEqual(ways_of_part((10, [1, 2], [0, 1, 1]), 0), {0: 10})
        self.assertEqual(ways_of_part((2, [1, 2], [0, 1, -1]), 1), {-1: 1, 0: 2, 1: 1})
        self.assertEqual(count_missing(TICKET, 27), 2)
        self.assertEqual(count_missing(TICKET, 28), 0)

    def test_noughts_alone_make_all_even(self):
        frame = (16, [6, 6, 6, 6], [0] * 24)
        self.assertEqual(count_even(frame), 16 ** 24)
        self.assertEqual(even_by_sums(frame), {0: 16 ** 24})
        self.assertEqual(ways_of_part(frame, 3), {0: 16 ** 6})
        self.assertEqual(count_missing(frame, 0), 16 ** 24)
        self.assertEqual(count_missing(frame, 1), 0)
        self.assertEqual(count_near(frame, 0), 16 ** 24)

    def test_parts_that_pull_apart(self):
        self.assertEqual(count_even(APART), 1)
        self.assertEqual(even_by_sums(APART), {0: 1})
        self.assertEqual(count_even_with(APART, 0), 1)
        self.assertEqual(count_even_with(APART, 9), 0)
        self.assertEqual(count_missing(APART, 0), 1)
        self.assertEqual(count_near(APART, 0), 1)
        self.assertEqual(count_missing(APART, 1620), 16 ** 12)
        self.assertEqual(count_near(APART, 1619), 16 ** 24 - 16 ** 12)
        self.assertEqual(count_near(APART, 1620), 16 ** 24)
        self.assertEqual(count_missing(APART, 1621), 0)
        # One figure of 14 in either of the two parts, the other parts as they like.
        self.assertEqual(count_missing(APART, 1611), 12 * 16 ** 12)


class BigFramesTest(unittest.TestCase):
    def test_even_ones(self):
        for frame in BIG_FRAMES:
            with self.subTest(frame=frame):
                rows = rows_of_parts(frame)
                for part, row in enumerate(rows):
                    expected = {place - 810: ways for place, ways in enumerate(row) if ways}
                    self.assertEqual(ways_of_part(frame, part), expected)
                by_sums = {}
                for place in range(1621):
                    many = times([row[place] for row in rows])
                    if many:
                        by_sums[place - 810] = many
                self.assertEqual(even_by_sums(frame), by_sums)
                self.assertEqual(count_even(frame), sum(by_sums.values()))
                for total in [-811, -810, -9, -1, 0, 1, 9, 100, 810, 811, FAR, -FAR]:
                    self.assertEqual(count_even_with(frame, total), by_sums.get(total, 0))

    def test_misses(self):
        for frame in BIG_FRAMES:
            rows = rows_of_parts(frame)
            for d in [0, 1, 2, 5, 90, 600, 1619, 1620]:
                with self.subTest(frame=frame, d=d):
                    missing = missing_by_ends(rows, d)
                    self.assertEqual(count_missing(frame, d), missing)
                    below = count_near(frame, d - 1) if d > 0 else 0
                    self.assertEqual(count_near(frame, d), below + missing)

    def test_misses_far_beyond(self):
        for frame in BIG_FRAMES + [TICKET] + SMALL_FRAMES:
            for d in [1621, 2000, 5000, 9999, FAR]:
                with self.subTest(frame=frame, d=d):
                    self.assertEqual(count_missing(frame, d), 0)
                    self.assertEqual(count_near(frame, d), how_many(frame))

    def test_all_misses_together_are_all_numbers(self):
        frame = (16, [6, 1, 6, 3], [1, -1, 2, 1, 0, 1, 3, 1, 1, 1, -1, 1, 1, 2, 2, 2])
        self.assertEqual(sum(count_missing(frame, d) for d in range(200)), how_many(frame))
        self.assertEqual(count_missing(frame, 0), count_even(frame))
        self.assertEqual(count_near(frame, 0), count_even(frame))


class SignsTurnedTest(unittest.TestCase):
    def test_the_same_counts(self):
        for frame in SMALL_FRAMES + BIG_FRAMES:
            turned = signs_turned(frame)
            with self.subTest(frame=frame):
                self.assertEqual(count_even(turned), count_even(frame))
                by_sums = even_by_sums(frame)
                self.assertEqual(even_by_sums(turned), {-total: by_sums[total] for total in by_sums})
                for d in [0, 1, 17]:
                    self.assertEqual(count_missing(turned, d), count_missing(frame, d))
                    self.assertEqual(count_near(turned, d), count_near(frame, d))


class RefusalsTest(RefusalCase):
    def test_no_frame(self):
        for thing in wrong_frames():
            with self.subTest(thing=thing):
                for asked in ALONE:
                    self.assert_refused(NoFrame, asked, thing)
                for asked in WITH_TWO:
                    self.assert_refused(NoFrame, asked, thing, 0)

    def test_no_frame_ahead_of_all_else(self):
        for thing in A_FEW_WRONG_FRAMES:
            for second in NO_WHOLES + [-1, FAR]:
                for asked in WITH_TWO:
                    with self.subTest(thing=thing, second=second, asked=asked):
                        self.assert_refused(NoFrame, asked, thing, second)

    def test_no_part(self):
        for frame in [TICKET, (2, [1, 1, 1], [1, 1, 1])] + BIG_FRAMES[:1]:
            many = len(frame[1])
            for part in NO_WHOLES + [-1, -many, many, many + 1, FAR, -FAR]:
                with self.subTest(frame=frame, part=part):
                    self.assert_refused(NoPart, ways_of_part, frame, part)
            for part in range(many):
                self.assertEqual(sum(ways_of_part(frame, part).values()), frame[0] ** frame[1][part])

    def test_no_sum(self):
        for frame in [TICKET, BIG_FRAMES[0]]:
            for total in NO_WHOLES:
                with self.subTest(frame=frame, total=total):
                    self.assert_refused(NoSum, count_even_with, frame, total)

    def test_a_sum_that_does_not_come_is_no_refusal(self):
        for total in [-1, 28, -FAR, FAR]:
            self.assertEqual(count_even_with(TICKET, total), 0)

    def test_no_miss(self):
        for frame in [TICKET, BIG_FRAMES[0]]:
            for d in NO_WHOLES + [-1, -2, -FAR]:
                for asked in OF_A_MISS:
                    with self.subTest(frame=frame, d=d, asked=asked):
                        self.assert_refused(NoMiss, asked, frame, d)


class OwnershipTest(unittest.TestCase):
    def test_nothing_handed_in_is_changed(self):
        for frame in SMALL_FRAMES + BIG_FRAMES:
            before = copied(frame)
            for asked in ALONE:
                asked(frame)
            for asked in WITH_TWO:
                asked(frame, 1)
            self.assertEqual(frame, before)

    def test_wrong_things_handed_in_are_not_changed(self):
        for thing in [[], [0], {}, {0: 1}, [[1]]]:
            for asked in WITH_TWO:
                before = copied(thing)
                with self.assertRaises(ValueError):
                    asked(TICKET, thing)
                self.assertEqual(thing, before)

    def assert_own(self, asked):
        first = asked()
        kept = dict(first)
        second = asked()
        self.assertIs(type(first), dict)
        self.assertEqual(second, kept)
        self.assertIsNot(first, second)
        first[0] = -5
        first["more"] = 1
        self.assertEqual(second, kept)
        self.assertEqual(asked(), kept)
        second.clear()
        self.assertEqual(asked(), kept)

    def test_told_dicts_are_the_askers_own(self):
        for frame in [TICKET, SMALL_FRAMES[0], SMALL_FRAMES[1], BIG_FRAMES[0]]:
            before = count_even(frame), count_near(frame, 3)
            self.assert_own(lambda: even_by_sums(frame))
            self.assert_own(lambda: ways_of_part(frame, 0))
            self.assert_own(lambda: ways_of_part(frame, 1))
            self.assertEqual((count_even(frame), count_near(frame, 3)), before)

    def test_told_are_whole_numbers(self):
        for frame in SMALL_FRAMES + BIG_FRAMES:
            told = [count_even(frame)] + [asked(frame, 0) for asked in [count_even_with, count_missing, count_near]]
            for by_sums in [even_by_sums(frame), ways_of_part(frame, 0)]:
                told += list(by_sums) + list(by_sums.values())
                self.assertTrue(all(many > 0 for many in by_sums.values()))
            self.assertTrue(all(type(each) is int for each in told))

    def test_a_frame_changed_by_the_asker_is_taken_as_it_is_now(self):
        frame = (10, [1, 1], [1, 1])
        self.assertEqual(count_even(frame), 10)
        self.assertEqual(count_near(frame, 0), 10)
        frame[2][0] = 2
        self.assertEqual(count_even(frame), 5)
        self.assertEqual(count_near(frame, 0), 5)
        self.assertEqual(even_by_sums(frame), {0: 1, 2: 1, 4: 1, 6: 1, 8: 1})
        self.assertEqual(ways_of_part(frame, 0), {2 * figure: 1 for figure in range(10)})

    def test_the_same_again(self):
        for frame in SMALL_FRAMES + BIG_FRAMES:
            for asked in ALONE:
                self.assertEqual(asked(frame), asked(frame))
            for asked in WITH_TWO:
                self.assertEqual(asked(frame, 1), asked(frame, 1))


if __name__ == "__main__":
    unittest.main()
