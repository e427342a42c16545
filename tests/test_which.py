import bisect
import unittest
from collections import Counter

from likehalves.counted import count_even, count_near
from likehalves.errors import NoEven, NoFrame, NoMiss, NoNumber
from likehalves.frames import how_many, is_even, misses_by
from likehalves.which import even_below, even_by, last_even, near_below, near_by, near_place, next_even, place_of
from samples import (A_FEW_WRONG_FRAMES, BIG_FRAMES, MIDDLE_FRAMES, NO_WHOLES, SMALL_FRAMES, RefusalCase,
                     all_part_sums, copied, signs_turned, sums_of_values, wrong_frames)

OF_A_BOUND = [even_below, next_even, last_even]
OF_EVEN = [even_below, even_by, place_of, next_even, last_even]
OF_NEAR = [near_below, near_by, near_place]
TICKET = (10, [3, 3], [1, 1, 1, 1, 1, 1])
APART = (16, [6, 6, 6, 6], [9] * 6 + [-9] * 6 + [1] * 12)
FAR = 10 ** 25
BIGGEST = 16 ** 24
BIG_MISSES = [0, 1, 7, 300, 1620, 5000, FAR]


def misses_of_all(frame):
    return [max(sums) - min(sums) for sums in all_part_sums(frame)]


def some_of(things, many):
    step = max(1, len(things) // many)
    return sorted(set(things[::step] + things[:3] + things[-3:]))


class NearByHalves:
    """Another way of counting, for two parts: by the value of the first one, then by that of the second one."""

    def __init__(self, frame, d):
        first = sums_of_values(frame[0], frame[2][:frame[1][0]])
        self.second = sums_of_values(frame[0], frame[2][frame[1][0]:])
        self.first = first
        self.d = d
        many = Counter(self.second)
        partners = {total: sum(many[near] for near in many if abs(near - total) <= d) for total in set(first)}
        self.running = [0]
        for total in first:
            self.running.append(self.running[-1] + partners[total])

    def below(self, n):
        ahead, behind = divmod(n, len(self.second))
        if ahead == len(self.first):
            return self.running[ahead]
        return self.running[ahead] + len(self.partners_of(ahead, behind))

    def partners_of(self, ahead, end):
        return [value for value in range(end) if abs(self.second[value] - self.first[ahead]) <= self.d]

    def number_at(self, k):
        if k >= self.running[-1]:
            return None
        ahead = bisect.bisect_right(self.running, k) - 1
        behind = self.partners_of(ahead, len(self.second))[k - self.running[ahead]]
        return ahead * len(self.second) + behind


class SmallFramesTest(unittest.TestCase):
    def test_even_ones_below(self):
        for frame in SMALL_FRAMES:
            misses = misses_of_all(frame)
            for n in some_of(list(range(len(misses) + 1)), 150):
                with self.subTest(frame=frame, n=n):
                    self.assertEqual(even_below(frame, n), misses[:n].count(0))

    def test_the_so_manieth_and_its_place(self):
        for frame in SMALL_FRAMES:
            even = [n for n, miss in enumerate(misses_of_all(frame)) if miss == 0]
            for k in some_of(list(range(len(even))), 150):
                with self.subTest(frame=frame, k=k):
                    self.assertEqual(even_by(frame, k), even[k])
                    self.assertEqual(place_of(frame, even[k]), k)
            for k in [len(even), len(even) + 1, how_many(frame), FAR]:
                with self.subTest(frame=frame, k=k):
                    self.assertIsNone(even_by(frame, k))

    def test_the_next_one_and_the_last_one(self):
        for frame in SMALL_FRAMES:
            even = [n for n, miss in enumerate(misses_of_all(frame)) if miss == 0]
            for n in some_of(list(range(how_many(frame) + 1)), 100):
                with self.subTest(frame=frame, n=n):
                    place = bisect.bisect_left(even, n)
                    self.assertEqual(next_even(frame, n), even[place] if place < len(even) else None)
                    self.assertEqual(last_even(frame, n), even[place - 1] if place > 0 else None)

    def test_every_number_of_a_few_frames(self):
        for frame in [(3, [2, 2], [1, 2, -1, 2]), (2, [1, 2, 3], [2, 1, 1, 1, 1, 0]), (5, [1, 1], [1, 2])]:
            misses = misses_of_all(frame)
            for d in range(max(misses) + 2):
                near = [n for n, miss in enumerate(misses) if miss <= d]
                for n in range(len(misses) + 1):
                    with self.subTest(frame=frame, d=d, n=n):
                        self.assertEqual(near_below(frame, d, n), bisect.bisect_left(near, n))
                        self.assertEqual(near_by(frame, d, n), near[n] if n < len(near) else None)
                for place, n in enumerate(near):
                    self.assertEqual(near_place(frame, d, n), place)

    def test_near_ones(self):
        for frame in SMALL_FRAMES:
            misses = misses_of_all(frame)
            for d in some_of(sorted(set(misses)), 3) + [max(misses) + 1, 5000, FAR]:
                near = [n for n, miss in enumerate(misses) if miss <= d]
                for n in some_of(list(range(len(misses) + 1)), 12):
                    with self.subTest(frame=frame, d=d, n=n):
                        self.assertEqual(near_below(frame, d, n), bisect.bisect_left(near, n))
                for k in some_of(list(range(len(near))), 12):
                    with self.subTest(frame=frame, d=d, k=k):
                        self.assertEqual(near_by(frame, d, k), near[k])
                        self.assertEqual(near_place(frame, d, near[k]), k)
                for k in [len(near), len(near) + 1, FAR]:
                    self.assertIsNone(near_by(frame, d, k))


class MiddleFramesTest(unittest.TestCase):
    def assert_counted_alike(self, frame, d, below, by):
        other = NearByHalves(frame, d)
        many = how_many(frame)
        for n in [0, 1, 2, many // 7, many // 2, many // 2 + 1, many * 5 // 6, many - 1, many]:
            with self.subTest(frame=frame, d=d, n=n):
                self.assertEqual(below(n), other.below(n))
        count = other.running[-1]
        for k in [0, 1, count // 3, count // 2, count * 8 // 9, count - 2, count - 1, count, count + 1, FAR]:
            if k >= 0:
                with self.subTest(frame=frame, d=d, k=k):
                    self.assertEqual(by(k), other.number_at(k))

    def test_even_ones(self):
        for frame in MIDDLE_FRAMES:
            self.assert_counted_alike(frame, 0, lambda n: even_below(frame, n), lambda k: even_by(frame, k))

    def test_near_ones(self):
        for frame in MIDDLE_FRAMES:
            for d in [0, 1, 2, 10, 60, 1000, FAR]:
                self.assert_counted_alike(frame, d, lambda n: near_below(frame, d, n), lambda k: near_by(frame, d, k))


class KnownTest(unittest.TestCase):
    def test_a_ticket(self):
        self.assertEqual(even_below(TICKET, 0), 0)
        self.assertEqual(even_below(TICKET, 1), 1)
        self.assertEqual(even_below(TICKET, 1001), 1)
        self.assertEqual(even_below(TICKET, 1002), 2)
        self.assertEqual(even_below(TICKET, 999999), 55251)
        self.assertEqual(even_below(TICKET, 1000000), 55252)
        self.assertEqual([even_by(TICKET, k) for k in range(6)], [0, 1001, 1010, 1100, 2002, 2011])
        self.assertEqual(even_by(TICKET, 55251), 999999)
        self.assertIsNone(even_by(TICKET, 55252))
        self.assertEqual(place_of(TICKET, 999999), 55251)
        self.assertEqual(place_of(TICKET, 0), 0)
        self.assertEqual(next_even(TICKET, 1), 1001)
        self.assertEqual(next_even(TICKET, 1001), 1001)
        self.assertEqual(next_even(TICKET, 999999), 999999)
        self.assertIsNone(next_even(TICKET, 1000000))
        self.assertIsNone(last_even(TICKET, 0))
        self.assertEqual(last_even(TICKET, 1), 0)
        self.assertEqual(last_even(TICKET, 1001), 0)
        self.assertEqual(last_even(TICKET, 1000000), 999999)

    def test_near_a_ticket(self):
        self.assertEqual(near_below(TICKET, 1, 0), 0)
        self.assertEqual([near_by(TICKET, 1, k) for k in range(6)], [0, 1, 10, 100, 1000, 1001])
        self.assertEqual(near_by(TICKET, 26, 0), 0)
        self.assertEqual(near_by(TICKET, 26, 999), 1000)
        self.assertEqual(near_by(TICKET, 27, 999), 999)
        self.assertEqual(near_below(TICKET, 26, 1000000), 999998)
        self.assertIsNone(near_by(TICKET, 26, 999998))
        self.assertEqual(near_by(TICKET, 26, 999997), 999999)
        self.assertEqual(near_place(TICKET, 26, 999999), 999997)

    def test_the_next_where_there_is_none(self):
        frame = (10, [1, 1], [1, -1])
        self.assertEqual(next_even(frame, 0), 0)
        for n in [1, 50, 99, 100]:
            self.assertIsNone(next_even(frame, n))
            self.assertEqual(last_even(frame, n), 0)
        self.assertIsNone(last_even(frame, 0))

    def test_noughts_alone_make_all_even(self):
        frame = (16, [6, 6, 6, 6], [0] * 24)
        for n in [0, 1, 15, 16, BIGGEST // 3, BIGGEST - 1]:
            self.assertEqual(even_below(frame, n), n)
            self.assertEqual(even_by(frame, n), n)
            self.assertEqual(place_of(frame, n), n)
            self.assertEqual(next_even(frame, n), n)
            self.assertEqual(last_even(frame, n + 1), n)
            self.assertEqual(near_by(frame, 0, n), n)
        self.assertIsNone(even_by(frame, BIGGEST))

    def test_parts_that_pull_apart(self):
        self.assertEqual(even_by(APART, 0), 0)
        self.assertIsNone(even_by(APART, 1))
        self.assertIsNone(next_even(APART, 1))
        self.assertEqual(last_even(APART, BIGGEST), 0)
        # The greatest miss is that of the last numbers of the first two parts.
        first_of_all = BIGGEST - 16 ** 12
        self.assertEqual(near_below(APART, 1619, BIGGEST), first_of_all)
        self.assertEqual(near_by(APART, 1619, first_of_all - 1), first_of_all - 1)
        self.assertIsNone(near_by(APART, 1619, first_of_all))
        self.assertEqual(near_by(APART, 1620, first_of_all), first_of_all)


class BigFramesTest(unittest.TestCase):
    def test_there_and_back(self):
        for frame in BIG_FRAMES:
            for d in BIG_MISSES:
                count = count_near(frame, d)
                for k in sorted({0, count * 2 // 3, count - 1}):
                    with self.subTest(frame=frame, d=d, k=k):
                        number = near_by(frame, d, k)
                        self.assertLessEqual(misses_by(frame, number), d)
                        self.assertEqual(near_place(frame, d, number), k)
                        self.assertEqual(near_below(frame, d, number), k)
                        self.assertEqual(near_below(frame, d, number + 1), k + 1)
                for k in [count, count + 1, 10 ** 40]:
                    self.assertIsNone(near_by(frame, d, k))
                self.assertEqual(near_below(frame, d, BIGGEST), count)
                self.assertEqual(near_below(frame, d, 0), 0)

    def test_even_ones(self):
        for frame in BIG_FRAMES:
            count = count_even(frame)
            self.assertEqual(even_below(frame, BIGGEST), count)
            for k in sorted({0, count // 5, count * 3 // 4, count - 1}):
                with self.subTest(frame=frame, k=k):
                    number = even_by(frame, k)
                    self.assertIs(is_even(frame, number), True)
                    self.assertEqual(place_of(frame, number), k)
                    self.assertEqual(even_below(frame, number), k)
                    self.assertEqual(next_even(frame, number), number)
                    self.assertEqual(last_even(frame, number + 1), number)
                    following = even_by(frame, k + 1)
                    self.assertEqual(next_even(frame, number + 1), following)
                    self.assertEqual(last_even(frame, BIGGEST if following is None else following), number)
            for k in [count, count + 1, BIGGEST, 10 ** 40]:
                self.assertIsNone(even_by(frame, k))
            self.assertIsNone(next_even(frame, BIGGEST))
            self.assertIsNone(last_even(frame, 0))

    def test_figures_taken_from_the_greatest_miss_by_as_much(self):
        # Where all parts have like weights in all, n and the last number less n miss by the same.
        for frame in [BIG_FRAMES[0], BIG_FRAMES[2]]:
            for d in BIG_MISSES:
                for n in [0, 1, 16 ** 18, BIGGEST // 3, BIGGEST // 2 + 12345]:
                    both = near_below(frame, d, n) + near_below(frame, d, BIGGEST - n)
                    self.assertEqual(both, count_near(frame, d))

    def test_a_miss_far_beyond_lets_all(self):
        for frame in BIG_FRAMES:
            for d in [1621, FAR]:
                for n in [0, BIGGEST // 3, BIGGEST - 1]:
                    self.assertEqual(near_below(frame, d, n), n)
                    self.assertEqual(near_by(frame, d, n), n)
                    self.assertEqual(near_place(frame, d, n), n)
                self.assertIsNone(near_by(frame, d, BIGGEST))


class SignsTurnedTest(unittest.TestCase):
    def test_the_same_numbers(self):
        for frame in SMALL_FRAMES + BIG_FRAMES:
            turned = signs_turned(frame)
            count = count_even(frame)
            for k in [0, 1, count // 2, count - 1, count]:
                self.assertEqual(even_by(turned, k), even_by(frame, k))
            for n in [0, 1, how_many(frame) // 3, how_many(frame)]:
                self.assertEqual(even_below(turned, n), even_below(frame, n))
                self.assertEqual(near_below(turned, 5, n), near_below(frame, 5, n))


class RefusalsTest(RefusalCase):
    def test_no_frame(self):
        for thing in wrong_frames():
            with self.subTest(thing=thing):
                for asked in OF_EVEN:
                    self.assert_refused(NoFrame, asked, thing, 0)
                for asked in OF_NEAR:
                    self.assert_refused(NoFrame, asked, thing, 0, 0)

    def test_no_frame_ahead_of_all_else(self):
        for thing in A_FEW_WRONG_FRAMES:
            for second in NO_WHOLES + [-1, FAR]:
                with self.subTest(thing=thing, second=second):
                    for asked in OF_EVEN:
                        self.assert_refused(NoFrame, asked, thing, second)
                    for asked in OF_NEAR:
                        self.assert_refused(NoFrame, asked, thing, second, second)
                        self.assert_refused(NoFrame, asked, thing, second, 0)
                        self.assert_refused(NoFrame, asked, thing, 0, second)

    def test_no_miss_ahead_of_no_number_and_no_even(self):
        for frame in [TICKET, BIG_FRAMES[0]]:
            for d in NO_WHOLES + [-1, -2, -FAR]:
                with self.subTest(frame=frame, d=d):
                    for asked in OF_NEAR:
                        for last in [0, 1, -1, True, None, "0", [], 10 ** 40]:
                            self.assert_refused(NoMiss, asked, frame, d, last)

    def test_no_number_below(self):
        for frame in [TICKET, SMALL_FRAMES[0], BIG_FRAMES[1]]:
            many = how_many(frame)
            for n in NO_WHOLES + [-1, -many, many + 1, many + 2, 10 ** 40, -FAR]:
                with self.subTest(frame=frame, n=n):
                    for asked in OF_A_BOUND:
                        self.assert_refused(NoNumber, asked, frame, n)
                    for d in [0, 5, FAR]:
                        self.assert_refused(NoNumber, near_below, frame, d, n)

    def test_no_number_of_a_place(self):
        for frame in [TICKET, BIG_FRAMES[1]]:
            for k in NO_WHOLES + [-1, -2, -FAR]:
                with self.subTest(frame=frame, k=k):
                    self.assert_refused(NoNumber, even_by, frame, k)
                    for d in [0, 5, FAR]:
                        self.assert_refused(NoNumber, near_by, frame, d, k)

    def test_no_even(self):
        for frame in [TICKET, SMALL_FRAMES[0], BIG_FRAMES[0]]:
            many = how_many(frame)
            for n in NO_WHOLES + [-1, -many, 1, many - 2, many, many + 1, 10 ** 40, -FAR]:
                with self.subTest(frame=frame, n=n):
                    self.assert_refused(NoEven, place_of, frame, n)
                    self.assert_refused(NoEven, near_place, frame, 0, n)

    def test_no_near_one(self):
        for frame in SMALL_FRAMES:
            for n, miss in list(enumerate(misses_of_all(frame)))[:60]:
                self.assertEqual(near_place(frame, miss, n), near_below(frame, miss, n))
                for d in range(max(0, miss - 3), miss):
                    self.assert_refused(NoEven, near_place, frame, d, n)
                if miss > 0:
                    self.assert_refused(NoEven, place_of, frame, n)
        for frame in [TICKET, BIG_FRAMES[0]]:
            many = how_many(frame)
            for d in [0, 27, 5000, FAR]:
                for n in NO_WHOLES + [-1, -many, many, many + 1, 10 ** 40]:
                    self.assert_refused(NoEven, near_place, frame, d, n)


class OwnershipTest(unittest.TestCase):
    def test_nothing_handed_in_is_changed(self):
        for frame in SMALL_FRAMES + BIG_FRAMES:
            before = copied(frame)
            for asked in OF_EVEN:
                asked(frame, 0)
            for asked in OF_NEAR:
                asked(frame, 1, 0)
            self.assertEqual(frame, before)

    def test_wrong_things_handed_in_are_not_changed(self):
        for thing in [[], [0], {}, {0: 1}, [[1]]]:
            before = copied(thing)
            for asked in OF_EVEN:
                with self.assertRaises(ValueError):
                    asked(TICKET, thing)
            for asked in OF_NEAR:
                with self.assertRaises(ValueError):
                    asked(TICKET, thing, thing)
                with self.assertRaises(ValueError):
                    asked(TICKET, 0, thing)
            self.assertEqual(thing, before)

    def test_told_are_whole_numbers(self):
        for frame in SMALL_FRAMES + BIG_FRAMES:
            told = [asked(frame, 0) for asked in [even_below, even_by, place_of, next_even]] + [last_even(frame, 1)]
            told += [asked(frame, 3, 0) for asked in OF_NEAR]
            self.assertTrue(all(type(each) is int for each in told))

    def test_a_frame_changed_by_the_asker_is_taken_as_it_is_now(self):
        frame = (10, [1, 1], [1, 1])
        self.assertEqual([even_by(frame, k) for k in [0, 1, 9, 10]], [0, 11, 99, None])
        self.assertEqual(near_by(frame, 1, 1), 1)
        frame[2][0] = 2
        self.assertEqual([even_by(frame, k) for k in [0, 1, 4, 5]], [0, 12, 48, None])
        self.assertEqual(even_below(frame, 48), 4)
        self.assertEqual(place_of(frame, 48), 4)
        self.assertEqual(next_even(frame, 13), 24)
        self.assertEqual(last_even(frame, 24), 12)
        self.assertEqual(near_by(frame, 1, 2), 11)

    def test_the_same_again(self):
        for frame in SMALL_FRAMES + BIG_FRAMES:
            for asked in OF_EVEN:
                self.assertEqual(asked(frame, 0), asked(frame, 0))
            for asked in OF_NEAR:
                self.assertEqual(asked(frame, 2, 0), asked(frame, 2, 0))


if __name__ == "__main__":
    unittest.main()
