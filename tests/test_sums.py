import unittest

from likehalves.counted import count_even, count_even_with, even_by_sums
from likehalves.errors import NoFrame, NoNumber
from likehalves.frames import how_many, is_even, part_sums
from likehalves.sums import first_greatest, greatest_sum, least_sum, sum_even, sum_even_below
from likehalves.which import even_below, even_by, next_even
from samples import (A_FEW_WRONG_FRAMES, BIG_FRAMES, MIDDLE_FRAMES, NO_WHOLES, SMALL_FRAMES, RefusalCase,
                     all_part_sums, copied, signs_turned, sums_of_values, wrong_frames)

ALONE = [sum_even, least_sum, greatest_sum, first_greatest]
TICKET = (10, [3, 3], [1, 1, 1, 1, 1, 1])
FAR = 10 ** 25
BIGGEST = 16 ** 24


def even_ones(frame):
    """Tuples (number, sum) of all even numbers, by walking all numbers."""
    return [(n, sums[0]) for n, sums in enumerate(all_part_sums(frame)) if len(set(sums)) == 1]


def values_by_sums(base, weights):
    by_sums = {}
    for value, total in enumerate(sums_of_values(base, weights)):
        by_sums.setdefault(total, []).append(value)
    return by_sums


def worth_by_halves(frame, n):
    """The even numbers below n, added up by the values of the first part."""
    length = frame[1][0]
    first = values_by_sums(frame[0], frame[2][:length])
    second = values_by_sums(frame[0], frame[2][length:])
    stand = frame[0] ** frame[1][1]
    worth = 0
    for total in first:
        values = second.get(total, [])
        whole = sum(values)
        for ahead in first[total]:
            if (ahead + 1) * stand <= n:
                worth += ahead * stand * len(values) + whole
            elif ahead * stand < n:
                worth += sum(ahead * stand + value for value in values if ahead * stand + value < n)
    return worth


class SmallFramesTest(unittest.TestCase):
    def test_all_even_ones(self):
        for frame in SMALL_FRAMES:
            with self.subTest(frame=frame):
                self.assertEqual(sum_even(frame), sum(n for n, total in even_ones(frame)))

    def test_even_ones_below(self):
        for frame in SMALL_FRAMES:
            even = [n for n, total in even_ones(frame)]
            many = how_many(frame)
            for n in sorted({0, 1, 2, 3, many - 2, many - 1, many} | set(range(0, many, max(1, many // 120)))):
                with self.subTest(frame=frame, n=n):
                    self.assertEqual(sum_even_below(frame, n), sum(each for each in even if each < n))

    def test_least_and_greatest_sum(self):
        for frame in SMALL_FRAMES:
            with self.subTest(frame=frame):
                sums = [total for n, total in even_ones(frame)]
                self.assertEqual(least_sum(frame), min(sums))
                self.assertEqual(greatest_sum(frame), max(sums))

    def test_the_first_with_the_greatest_and_how_many(self):
        for frame in SMALL_FRAMES:
            with self.subTest(frame=frame):
                even = even_ones(frame)
                greatest = max(total for n, total in even)
                those = [n for n, total in even if total == greatest]
                self.assertEqual(first_greatest(frame), (those[0], len(those)))


class MiddleFramesTest(unittest.TestCase):
    def test_even_ones_below(self):
        for frame in MIDDLE_FRAMES:
            many = how_many(frame)
            for n in [0, 1, many // 7, many // 2, many // 2 + 1, many * 5 // 6, many - 1, many]:
                with self.subTest(frame=frame, n=n):
                    self.assertEqual(sum_even_below(frame, n), worth_by_halves(frame, n))
            self.assertEqual(sum_even(frame), worth_by_halves(frame, many))

    def test_the_first_with_the_greatest(self):
        for frame in MIDDLE_FRAMES:
            first = values_by_sums(frame[0], frame[2][:frame[1][0]])
            second = values_by_sums(frame[0], frame[2][frame[1][0]:])
            both = sorted(set(first) & set(second))
            number = first[both[-1]][0] * frame[0] ** frame[1][1] + second[both[-1]][0]
            many = len(first[both[-1]]) * len(second[both[-1]])
            with self.subTest(frame=frame):
                self.assertEqual(first_greatest(frame), (number, many))
                self.assertEqual((least_sum(frame), greatest_sum(frame)), (both[0], both[-1]))


class KnownTest(unittest.TestCase):
    def test_a_ticket(self):
        # A ticket and the last one less it are even together.
        self.assertEqual(sum_even(TICKET), 55252 * 999999 // 2)
        self.assertEqual(sum_even_below(TICKET, 0), 0)
        self.assertEqual(sum_even_below(TICKET, 1), 0)
        self.assertEqual(sum_even_below(TICKET, 1001), 0)
        self.assertEqual(sum_even_below(TICKET, 1002), 1001)
        self.assertEqual(sum_even_below(TICKET, 1101), 1001 + 1010 + 1100)
        self.assertEqual(sum_even_below(TICKET, 999999), sum_even(TICKET) - 999999)
        self.assertEqual(sum_even_below(TICKET, 1000000), sum_even(TICKET))
        self.assertEqual(least_sum(TICKET), 0)
        self.assertEqual(greatest_sum(TICKET), 27)
        self.assertEqual(first_greatest(TICKET), (999999, 1))

    def test_other_sums(self):
        self.assertEqual((least_sum((10, [1, 1], [-1, -1])), greatest_sum((10, [1, 1], [-1, -1]))), (-9, 0))
        self.assertEqual(first_greatest((10, [1, 1], [-1, -1])), (0, 1))
        self.assertEqual(first_greatest((10, [1, 1], [1, -1])), (0, 1))
        self.assertEqual(first_greatest((10, [1, 2], [1, 1, 1])), (909, 10))
        self.assertEqual(first_greatest((10, [1, 2], [2, 0, 1])), (408, 10))
        self.assertEqual(first_greatest((10, [2, 1], [1, -1, 9])), (901, 1))
        self.assertEqual(least_sum((10, [2, 1], [1, -1, 9])), 0)

    def test_noughts_alone_make_all_even(self):
        frame = (16, [6, 6, 6, 6], [0] * 24)
        self.assertEqual(sum_even(frame), BIGGEST * (BIGGEST - 1) // 2)
        for n in [0, 1, 2, 17, BIGGEST // 3, BIGGEST - 1, BIGGEST]:
            self.assertEqual(sum_even_below(frame, n), n * (n - 1) // 2)
        self.assertEqual((least_sum(frame), greatest_sum(frame)), (0, 0))
        self.assertEqual(first_greatest(frame), (0, BIGGEST))

    def test_parts_that_pull_apart(self):
        frame = (16, [6, 6, 6, 6], [9] * 6 + [-9] * 6 + [1] * 12)
        self.assertEqual(sum_even(frame), 0)
        self.assertEqual(sum_even_below(frame, BIGGEST), 0)
        self.assertEqual(sum_even_below(frame, BIGGEST // 2), 0)
        self.assertEqual((least_sum(frame), greatest_sum(frame)), (0, 0))
        self.assertEqual(first_greatest(frame), (0, 1))


class BigFramesTest(unittest.TestCase):
    def test_figures_taken_from_the_greatest(self):
        # Where all parts have like weights in all, n and the last number less n are even together.
        for frame in [BIG_FRAMES[0], BIG_FRAMES[2], BIG_FRAMES[4]]:
            whole = sum_even(frame)
            self.assertEqual(whole, count_even(frame) * (BIGGEST - 1) // 2)
            for n in [0, 1, 16 ** 18, 16 ** 18 + 1, BIGGEST // 3, BIGGEST // 2 + 12345, BIGGEST - 1, BIGGEST]:
                with self.subTest(frame=frame, n=n):
                    turned = BIGGEST - n
                    above = (BIGGEST - 1) * even_below(frame, turned) - sum_even_below(frame, turned)
                    self.assertEqual(sum_even_below(frame, n) + above, whole)

    def test_one_more_number(self):
        for frame in BIG_FRAMES:
            count = count_even(frame)
            for k in sorted({0, min(1, count - 1), count // 3, count - 1}):
                number = even_by(frame, k)
                with self.subTest(frame=frame, number=number):
                    added = sum_even_below(frame, number + 1)
                    self.assertEqual(added - sum_even_below(frame, number), number)
                    following = next_even(frame, number + 1)
                    self.assertEqual(sum_even_below(frame, BIGGEST if following is None else following), added)
            self.assertEqual(sum_even_below(frame, BIGGEST), sum_even(frame))
            self.assertEqual(sum_even_below(frame, 0), 0)

    def test_the_first_few(self):
        for frame in BIG_FRAMES:
            few = [n for n in [even_by(frame, k) for k in range(6)] if n is not None]
            self.assertEqual(sum_even_below(frame, few[-1] + 1), sum(few))

    def test_least_and_greatest_sum(self):
        for frame in BIG_FRAMES:
            with self.subTest(frame=frame):
                sums = sorted(even_by_sums(frame))
                self.assertEqual((least_sum(frame), greatest_sum(frame)), (sums[0], sums[-1]))
                told = first_greatest(frame)
                self.assertIs(is_even(frame, told[0]), True)
                self.assertEqual(part_sums(frame, told[0]), [sums[-1]] * 4)
                self.assertEqual(told[1], count_even_with(frame, sums[-1]))

    def test_the_first_with_the_greatest(self):
        self.assertEqual(first_greatest(BIG_FRAMES[0]), (BIGGEST - 1, 1))
        # Each part: 15 times 9, 0 times -9, the free figure 0, 15, 0, 15.
        self.assertEqual(first_greatest(BIG_FRAMES[2]), (int("f00f0f" * 4, 16), 16 ** 4))


class SignsTurnedTest(unittest.TestCase):
    def test_the_same_numbers(self):
        for frame in SMALL_FRAMES + BIG_FRAMES:
            turned = signs_turned(frame)
            with self.subTest(frame=frame):
                self.assertEqual(sum_even(turned), sum_even(frame))
                self.assertEqual(least_sum(turned), -greatest_sum(frame))
                self.assertEqual(greatest_sum(turned), -least_sum(frame))
                for n in [0, 1, how_many(frame) // 3, how_many(frame)]:
                    self.assertEqual(sum_even_below(turned, n), sum_even_below(frame, n))


class RefusalsTest(RefusalCase):
    def test_no_frame(self):
        for thing in wrong_frames():
            with self.subTest(thing=thing):
                for asked in ALONE:
                    self.assert_refused(NoFrame, asked, thing)
                self.assert_refused(NoFrame, sum_even_below, thing, 0)

    def test_no_frame_ahead_of_no_number(self):
        for thing in A_FEW_WRONG_FRAMES:
            for n in NO_WHOLES + [-1, FAR]:
                with self.subTest(thing=thing, n=n):
                    self.assert_refused(NoFrame, sum_even_below, thing, n)

    def test_no_number(self):
        for frame in [TICKET] + SMALL_FRAMES + BIG_FRAMES:
            many = how_many(frame)
            for n in NO_WHOLES + [-1, -many, many + 1, many + 2, 10 ** 40, -FAR]:
                with self.subTest(frame=frame, n=n):
                    self.assert_refused(NoNumber, sum_even_below, frame, n)


class OwnershipTest(unittest.TestCase):
    def test_nothing_handed_in_is_changed(self):
        for frame in SMALL_FRAMES + BIG_FRAMES:
            before = copied(frame)
            for asked in ALONE:
                asked(frame)
            sum_even_below(frame, 3)
            self.assertEqual(frame, before)

    def test_wrong_things_handed_in_are_not_changed(self):
        for thing in [[], [0], {}, {0: 1}, [[1]]]:
            before = copied(thing)
            with self.assertRaises(NoNumber):
                sum_even_below(TICKET, thing)
            with self.assertRaises(NoFrame):
                sum_even(thing)
            self.assertEqual(thing, before)

    def test_told_are_whole_numbers_and_a_tuple(self):
        for frame in SMALL_FRAMES + BIG_FRAMES:
            told = first_greatest(frame)
            self.assertIs(type(told), tuple)
            self.assertEqual(len(told), 2)
            wholes = list(told) + [asked(frame) for asked in [sum_even, least_sum, greatest_sum]]
            wholes.append(sum_even_below(frame, 2))
            self.assertTrue(all(type(each) is int for each in wholes))

    def test_a_frame_changed_by_the_asker_is_taken_as_it_is_now(self):
        frame = (10, [1, 1], [1, 1])
        self.assertEqual([asked(frame) for asked in ALONE], [495, 0, 9, (99, 1)])
        self.assertEqual(sum_even_below(frame, 33), 33)
        frame[2][0] = 2
        self.assertEqual([asked(frame) for asked in ALONE], [120, 0, 8, (48, 1)])
        self.assertEqual(sum_even_below(frame, 36), 36)

    def test_the_same_again(self):
        for frame in SMALL_FRAMES + BIG_FRAMES:
            for asked in ALONE:
                self.assertEqual(asked(frame), asked(frame))
            self.assertEqual(sum_even_below(frame, 4), sum_even_below(frame, 4))


if __name__ == "__main__":
    unittest.main()
