import unittest

import samples
from likehalves.counted import count_even, count_near, even_by_sums
from likehalves.errors import NoFrame, NoNumber
from likehalves.frames import figures_of, is_even, is_frame, misses_by, part_sums
from likehalves.sums import sum_even
from likehalves.turned import from_behind, signs_turned, turned_round
from likehalves.which import even_below, even_by, last_even, next_even
from samples import A_FEW_WRONG_FRAMES, BIG_FRAMES, MIDDLE_FRAMES, NO_WHOLES, SMALL_FRAMES, RefusalCase, copied

TICKET = (10, [3, 3], [1, 1, 1, 1, 1, 1])
UNLIKE = (10, [1, 3, 2], [1, 2, 3, 4, -5, 6])
ALL_FRAMES = SMALL_FRAMES + MIDDLE_FRAMES + BIG_FRAMES + [TICKET, UNLIKE]
TURNS = [turned_round, signs_turned]


def how_many_in(frame):
    return frame[0] ** len(frame[2])


class TurnedRoundTest(unittest.TestCase):
    def test_known(self):
        self.assertEqual(turned_round(UNLIKE), (10, [2, 3, 1], [6, -5, 4, 3, 2, 1]))
        self.assertEqual(turned_round((2, [1, 1], [9, -9])), (2, [1, 1], [-9, 9]))
        self.assertEqual(turned_round((16, [6, 1], [1, 2, 3, 4, 5, 6, 7])), (16, [1, 6], [7, 6, 5, 4, 3, 2, 1]))
        self.assertEqual(turned_round((3, [1, 2, 3, 4], list(range(-5, 5)))), (3, [4, 3, 2, 1], list(range(4, -6, -1))))
        self.assertEqual(turned_round(TICKET), TICKET)

    def test_twice_is_the_frame_again(self):
        for frame in ALL_FRAMES:
            with self.subTest(frame=frame):
                turned = turned_round(frame)
                self.assertIs(is_frame(turned), True)
                self.assertEqual(turned_round(turned), frame)

    def test_the_same_numbers_are_even_from_behind(self):
        for frame in SMALL_FRAMES:
            turned = turned_round(frame)
            for n, sums in enumerate(samples.all_part_sums(frame)):
                behind = from_behind(frame, n)
                self.assertEqual(part_sums(turned, behind), list(reversed(sums)))
                self.assertIs(is_even(turned, behind), len(set(sums)) == 1)
                self.assertEqual(misses_by(turned, behind), max(sums) - min(sums))

    def test_as_many_are_even_and_near(self):
        for frame in ALL_FRAMES:
            turned = turned_round(frame)
            with self.subTest(frame=frame):
                self.assertEqual(even_by_sums(turned), even_by_sums(frame))
                for d in [0, 1, 7, 10 ** 25]:
                    self.assertEqual(count_near(turned, d), count_near(frame, d))

    def test_even_numbers_of_the_biggest_frames_from_behind(self):
        for frame in BIG_FRAMES:
            turned = turned_round(frame)
            for k in [0, 1, count_even(frame) // 3, count_even(frame) - 1]:
                n = even_by(frame, k)
                if n is not None:
                    self.assertIs(is_even(turned, from_behind(frame, n)), True)


class SignsTurnedTest(unittest.TestCase):
    def test_known(self):
        self.assertEqual(signs_turned(UNLIKE), (10, [1, 3, 2], [-1, -2, -3, -4, 5, -6]))
        self.assertEqual(signs_turned((2, [1, 1], [9, -9])), (2, [1, 1], [-9, 9]))
        self.assertEqual(signs_turned((2, [1, 1], [0, 0])), (2, [1, 1], [0, 0]))

    def test_twice_is_the_frame_again(self):
        for frame in ALL_FRAMES:
            with self.subTest(frame=frame):
                turned = signs_turned(frame)
                self.assertIs(is_frame(turned), True)
                self.assertEqual(turned, samples.signs_turned(frame))
                self.assertEqual(signs_turned(turned), frame)

    def test_both_turns_in_either_order(self):
        for frame in ALL_FRAMES:
            self.assertEqual(signs_turned(turned_round(frame)), turned_round(signs_turned(frame)))

    def test_the_same_numbers_are_even(self):
        for frame in SMALL_FRAMES:
            turned = signs_turned(frame)
            for n, sums in enumerate(samples.all_part_sums(frame)):
                self.assertEqual(part_sums(turned, n), [-total for total in sums])
                self.assertIs(is_even(turned, n), len(set(sums)) == 1)
                self.assertEqual(misses_by(turned, n), max(sums) - min(sums))

    def test_the_same_is_told_of_them(self):
        for frame in ALL_FRAMES:
            turned = signs_turned(frame)
            many = how_many_in(frame)
            with self.subTest(frame=frame):
                self.assertEqual(count_even(turned), count_even(frame))
                self.assertEqual(sum_even(turned), sum_even(frame))
                self.assertEqual(even_by_sums(turned), {-s: count for s, count in even_by_sums(frame).items()})
                for n in [0, 1, many // 3, many - 1, many]:
                    self.assertEqual(even_below(turned, n), even_below(frame, n))
                    self.assertEqual(next_even(turned, n), next_even(frame, n))
                    self.assertEqual(last_even(turned, n), last_even(frame, n))
                for k in [0, 1, count_even(frame) // 2, count_even(frame) - 1, count_even(frame)]:
                    self.assertEqual(even_by(turned, k), even_by(frame, k))
                for d in [0, 1, 7, 10 ** 25]:
                    self.assertEqual(count_near(turned, d), count_near(frame, d))


class FromBehindTest(unittest.TestCase):
    def test_known(self):
        self.assertEqual(from_behind(TICKET, 123456), 654321)
        self.assertEqual(from_behind(TICKET, 1), 100000)
        self.assertEqual(from_behind(TICKET, 100000), 1)
        self.assertEqual(from_behind(TICKET, 120), 21000)
        self.assertEqual(from_behind(UNLIKE, 123456), 654321)
        self.assertEqual(from_behind((16, [1, 2], [1, 1, 1]), 0xA3F), 0xF3A)
        self.assertEqual(from_behind((2, [1, 3], [1, 1, 1, 1]), 0b0110), 0b0110)
        self.assertEqual(from_behind((2, [1, 3], [1, 1, 1, 1]), 0b0010), 0b0100)

    def test_the_first_and_the_last_number(self):
        for frame in ALL_FRAMES:
            many = how_many_in(frame)
            with self.subTest(frame=frame):
                self.assertEqual(from_behind(frame, 0), 0)
                self.assertEqual(from_behind(frame, many - 1), many - 1)
                self.assertEqual(from_behind(frame, 1), many // frame[0])
                self.assertEqual(from_behind(frame, many // frame[0]), 1)

    def test_every_number_of_small_frames(self):
        for frame in SMALL_FRAMES:
            many = how_many_in(frame)
            told = [from_behind(frame, n) for n in range(many)]
            self.assertEqual(sorted(told), list(range(many)))
            for n in range(many):
                self.assertEqual(figures_of(frame, told[n]), figures_of(frame, n)[::-1])
                self.assertEqual(from_behind(turned_round(frame), told[n]), n)

    def test_the_biggest_frame(self):
        for frame in BIG_FRAMES:
            self.assertEqual(from_behind(frame, 0x0123456789ABCDEF01234567), 0x76543210FEDCBA9876543210)


class RefusalsTest(RefusalCase):
    def test_no_frame(self):
        for thing in samples.wrong_frames():
            with self.subTest(thing=thing):
                for asked in TURNS:
                    self.assert_refused(NoFrame, asked, thing)
                self.assert_refused(NoFrame, from_behind, thing, 0)

    def test_no_frame_ahead_of_no_number(self):
        for thing in A_FEW_WRONG_FRAMES:
            for n in NO_WHOLES + [-1, 100, 10 ** 25]:
                with self.subTest(thing=thing, n=n):
                    self.assert_refused(NoFrame, from_behind, thing, n)

    def test_no_number(self):
        for frame in ALL_FRAMES:
            many = how_many_in(frame)
            for n in NO_WHOLES + [-1, -2, many, many + 1, -many, 10 ** 40, frame, {0: {0: {0: [0]}}}]:
                with self.subTest(frame=frame, n=n):
                    self.assert_refused(NoNumber, from_behind, frame, n)


class OwnershipTest(unittest.TestCase):
    def test_nothing_handed_in_is_changed(self):
        for frame in ALL_FRAMES:
            handed = copied(frame)
            turned_round(handed)
            signs_turned(handed)
            from_behind(handed, 1)
            self.assertEqual(handed, frame)

    def test_wrong_things_handed_in_are_not_changed(self):
        for thing in [[10, [1, 1], [1, 1]], (10, [1, 1], [1]), {"a": [1]}, (10, [[1]], [[1]])]:
            before = copied(thing)
            for asked in TURNS:
                with self.assertRaises(NoFrame):
                    asked(thing)
            with self.assertRaises(NoNumber):
                from_behind(TICKET, thing)
            self.assertEqual(thing, before)

    def test_told_frames_are_the_askers_own(self):
        # The first is the same from behind, the second with its signs turned, the last in both ways.
        for frame in [TICKET, (10, [1, 2], [0, 0, 0]), UNLIKE, (10, [2, 2], [0, 0, 0, 0])]:
            for asked in TURNS:
                handed = copied(frame)
                first = asked(handed)
                second = asked(handed)
                expected = copied(second)
                self.assertEqual([type(each) for each in first], [int, list, list])
                self.assertIs(type(first), tuple)
                lists = [handed[1], handed[2], first[1], first[2], second[1], second[2]]
                self.assertEqual(len({id(each) for each in lists}), 6)
                for each in first[1:]:
                    each.append(5)
                    each[0] = 77
                self.assertEqual(handed, frame)
                self.assertEqual(second, expected)
                self.assertEqual(asked(handed), expected)

    def test_a_frame_changed_by_the_asker_is_taken_as_it_is_now(self):
        frame = (10, [1, 2], [1, 2, 3])
        turned = turned_round(frame)
        frame[2][0] = 7
        self.assertEqual(turned, (10, [2, 1], [3, 2, 1]))
        self.assertEqual(turned_round(frame), (10, [2, 1], [3, 2, 7]))
        self.assertEqual(signs_turned(frame), (10, [1, 2], [-7, -2, -3]))

    def test_the_same_again(self):
        for frame in ALL_FRAMES:
            self.assertEqual(turned_round(frame), turned_round(frame))
            self.assertEqual(signs_turned(frame), signs_turned(frame))
            self.assertEqual(from_behind(frame, 2), from_behind(frame, 2))


if __name__ == "__main__":
    unittest.main()
