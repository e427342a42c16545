import unittest

from likehalves.errors import NoFrame, NoNumber
from likehalves.frames import figures_of, how_many, is_even, is_frame, misses_by, part_sums
from samples import (A_FEW_WRONG_FRAMES, BIG_FRAMES, NO_WHOLES, SMALL_FRAMES, RefusalCase, all_part_sums, copied,
                     signs_turned, wrong_frames)

OF_A_NUMBER = [figures_of, part_sums, is_even, misses_by]
TICKET = (10, [3, 3], [1, 1, 1, 1, 1, 1])


class IsFrameTest(unittest.TestCase):
    def test_frames_are_frames(self):
        for frame in SMALL_FRAMES + BIG_FRAMES + [TICKET]:
            with self.subTest(frame=frame):
                self.assertIs(is_frame(frame), True)

    def test_every_base_from_2_to_16(self):
        for base in range(-20, 40):
            with self.subTest(base=base):
                self.assertIs(is_frame((base, [1, 1], [1, 1])), 2 <= base <= 16)

    def test_two_to_four_parts(self):
        for many in range(0, 9):
            with self.subTest(many=many):
                self.assertIs(is_frame((10, [1] * many, [1] * many)), 2 <= many <= 4)

    def test_parts_of_1_to_6_figures(self):
        for length in range(0, 10):
            with self.subTest(length=length):
                self.assertIs(is_frame((10, [length, 1], [1] * (length + 1))), 1 <= length <= 6)
                self.assertIs(is_frame((10, [1, 1, length], [1] * (length + 2))), 1 <= length <= 6)

    def test_weights_from_minus_9_to_9(self):
        for weight in range(-30, 31):
            with self.subTest(weight=weight):
                self.assertIs(is_frame((10, [1, 1], [weight, 0])), -9 <= weight <= 9)
                self.assertIs(is_frame((10, [1, 1], [0, weight])), -9 <= weight <= 9)

    def test_as_many_weights_as_figures(self):
        for many in range(0, 12):
            with self.subTest(many=many):
                self.assertIs(is_frame((10, [2, 3], [1] * many)), many == 5)

    def test_what_is_none(self):
        for thing in wrong_frames():
            with self.subTest(thing=thing):
                self.assertIs(is_frame(thing), False)


class RefusalsTest(RefusalCase):
    def test_no_frame(self):
        for thing in wrong_frames():
            with self.subTest(thing=thing):
                self.assert_refused(NoFrame, how_many, thing)
                for asked in OF_A_NUMBER:
                    self.assert_refused(NoFrame, asked, thing, 0)

    def test_no_frame_ahead_of_no_number(self):
        for thing in A_FEW_WRONG_FRAMES:
            for number in NO_WHOLES + [-1, 100, 10 ** 25]:
                for asked in OF_A_NUMBER:
                    with self.subTest(thing=thing, number=number, asked=asked):
                        self.assert_refused(NoFrame, asked, thing, number)

    def test_no_number(self):
        for frame in [TICKET] + SMALL_FRAMES + BIG_FRAMES:
            many = frame[0] ** len(frame[2])
            for number in NO_WHOLES + [-1, -2, -many, many, many + 1, 10 ** 40, -10 ** 25]:
                for asked in OF_A_NUMBER:
                    with self.subTest(frame=frame, number=number, asked=asked):
                        self.assert_refused(NoNumber, asked, frame, number)


class FiguresTest(unittest.TestCase):
    def test_how_many(self):
        self.assertEqual(how_many(TICKET), 10 ** 6)
        self.assertEqual(how_many((2, [1, 1], [0, 0])), 4)
        self.assertEqual(how_many((2, [6, 6, 6, 6], [0] * 24)), 2 ** 24)
        for frame in BIG_FRAMES:
            self.assertEqual(how_many(frame), 16 ** 24)

    def test_figures(self):
        self.assertEqual(figures_of(TICKET, 1203), [0, 0, 1, 2, 0, 3])
        self.assertEqual(figures_of(TICKET, 0), [0] * 6)
        self.assertEqual(figures_of(TICKET, 999999), [9] * 6)
        self.assertEqual(figures_of((16, [1, 2], [1, 1, 1]), 0xAF3), [10, 15, 3])
        self.assertEqual(figures_of((2, [1, 3], [1, 1, 1, 1]), 6), [0, 1, 1, 0])

    def test_figures_of_the_biggest_frame(self):
        for frame in BIG_FRAMES:
            self.assertEqual(figures_of(frame, 0), [0] * 24)
            self.assertEqual(figures_of(frame, 16 ** 24 - 1), [15] * 24)
            self.assertEqual(figures_of(frame, 16 ** 23), [1] + [0] * 23)
            self.assertEqual(figures_of(frame, 0x0123456789ABCDEF01234567), list(range(16)) + list(range(8)))

    def test_the_first_part_has_the_greatest_stands(self):
        self.assertEqual(part_sums((10, [1, 2], [1, 9, 2]), 345), [3, 46])
        self.assertEqual(part_sums((10, [2, 1], [1, 1, 1]), 345), [7, 5])
        self.assertEqual(part_sums((10, [1, 1, 1], [1, -2, 0]), 345), [3, -8, 0])
        self.assertEqual(part_sums((10, [1, 1, 1, 1], [1, 2, 3, 4]), 45), [0, 0, 12, 20])

    def test_sums_of_the_biggest_frame(self):
        last = 16 ** 24 - 1
        frame = (16, [6, 6, 6, 6], [9] * 6 + [-9] * 6 + [0] * 6 + [1] * 6)
        self.assertEqual(part_sums(frame, last), [810, -810, 0, 90])
        self.assertEqual(misses_by(frame, last), 1620)
        self.assertIs(is_even(frame, last), False)
        self.assertEqual(part_sums(frame, 0), [0, 0, 0, 0])
        self.assertIs(is_even(frame, 0), True)

    def test_even_and_missing(self):
        self.assertIs(is_even(TICKET, 123321), True)
        self.assertIs(is_even(TICKET, 123322), False)
        self.assertIs(is_even(TICKET, 0), True)
        self.assertIs(is_even(TICKET, 999999), True)
        self.assertEqual(misses_by(TICKET, 123321), 0)
        self.assertEqual(misses_by(TICKET, 999000), 27)
        self.assertEqual(misses_by(TICKET, 999), 27)
        self.assertEqual(misses_by((10, [1, 1, 1], [1, 1, 1]), 151), 4)
        self.assertEqual(misses_by((10, [1, 1, 1], [-1, -1, -1]), 151), 4)
        self.assertIs(is_even((10, [1, 1, 1], [1, 1, 1]), 151), False)
        self.assertIs(is_even((10, [1, 1, 1, 1], [1, 1, 1, 1]), 7777), True)
        self.assertIs(is_even((10, [1, 1, 1, 1], [1, 1, 1, 1]), 7787), False)

    def test_all_numbers_of_small_frames(self):
        for frame in SMALL_FRAMES:
            told = all_part_sums(frame)
            self.assertEqual(how_many(frame), len(told))
            for number, sums in enumerate(told):
                self.assertEqual(part_sums(frame, number), sums)
                self.assertEqual(misses_by(frame, number), max(sums) - min(sums))
                self.assertIs(is_even(frame, number), len(set(sums)) == 1)

    def test_figures_make_the_number_again(self):
        for frame in SMALL_FRAMES:
            for number in range(how_many(frame)):
                figures = figures_of(frame, number)
                self.assertEqual(len(figures), sum(frame[1]))
                self.assertTrue(all(0 <= figure < frame[0] for figure in figures))
                made = 0
                for figure in figures:
                    made = made * frame[0] + figure
                self.assertEqual(made, number)

    def test_signs_turned(self):
        for frame in SMALL_FRAMES:
            turned = signs_turned(frame)
            for number in range(how_many(frame)):
                self.assertIs(is_even(turned, number), is_even(frame, number))
                self.assertEqual(misses_by(turned, number), misses_by(frame, number))


class OwnershipTest(unittest.TestCase):
    def test_nothing_handed_in_is_changed(self):
        for frame in SMALL_FRAMES + BIG_FRAMES:
            before = copied(frame)
            is_frame(frame)
            how_many(frame)
            for asked in OF_A_NUMBER:
                asked(frame, 3)
            self.assertEqual(frame, before)

    def test_wrong_things_handed_in_are_not_changed(self):
        for thing in [[10, [1, 1], [1, 1]], (10, [1, 1], [1]), {"a": [1]}, (10, [[1]], [[1]])]:
            before = copied(thing)
            self.assertIs(is_frame(thing), False)
            with self.assertRaises(NoFrame):
                part_sums(thing, thing)
            self.assertEqual(thing, before)

    def test_told_lists_are_the_askers_own(self):
        for asked in [figures_of, part_sums]:
            frame = copied(TICKET)
            first = asked(frame, 123456)
            kept = list(first)
            second = asked(frame, 123456)
            self.assertEqual(second, kept)
            self.assertIsNot(first, second)
            first.append(5)
            first[0] = 77
            self.assertEqual(second, kept)
            self.assertEqual(asked(frame, 123456), kept)
            self.assertEqual(frame, TICKET)

    def test_told_are_lists_of_whole_numbers(self):
        for frame in SMALL_FRAMES + BIG_FRAMES:
            for asked in [figures_of, part_sums]:
                told = asked(frame, 1)
                self.assertIs(type(told), list)
                self.assertTrue(all(type(each) is int for each in told))
            self.assertIs(type(how_many(frame)), int)
            self.assertIs(type(misses_by(frame, 1)), int)

    def test_a_frame_changed_by_the_asker_is_taken_as_it_is_now(self):
        frame = (10, [1, 1], [1, 1])
        self.assertEqual(part_sums(frame, 23), [2, 3])
        frame[2][0] = 4
        self.assertEqual(part_sums(frame, 23), [8, 3])
        frame[1][0] = 2
        self.assertIs(is_frame(frame), False)
        frame[2].append(1)
        self.assertEqual(how_many(frame), 1000)
        self.assertEqual(figures_of(frame, 23), [0, 2, 3])

    def test_the_same_again(self):
        for frame in SMALL_FRAMES + BIG_FRAMES:
            for asked in OF_A_NUMBER:
                self.assertEqual(asked(frame, 2), asked(frame, 2))


if __name__ == "__main__":
    unittest.main()
