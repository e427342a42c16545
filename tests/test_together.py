import unittest

from likehalves.errors import NoFrames, NoNumber
from likehalves.together import all_keeping, keeps_all, next_keeping
from samples import BIG_FRAMES, NO_WHOLES, SMALL_FRAMES, RefusalCase, copied, wrong_frames

TICKET = (10, [3, 3], [1, 1, 1, 1, 1, 1])
PAIR = (10, [2, 2], [1, 1, 1, 1])
ELEVENS = (10, [1, 1], [1, 1])
BITS = (2, [6, 6], [1] * 12)
ALONE_NOUGHT = (10, [1, 1], [1, -1])
ALL_EVEN = (10, [2, 2], [0, 0, 0, 0])
ALL_OF_THE_BIGGEST = (16, [6, 6, 6, 6], [0] * 24)
FAR = 10 ** 25
TOGETHER = [
    [TICKET], [PAIR], [ELEVENS], [BITS], [ALL_EVEN], [ALONE_NOUGHT],
    [TICKET, BITS], [PAIR, BITS], [BITS, PAIR], [ELEVENS, ALL_EVEN], [TICKET, TICKET],
    [PAIR, BITS, (7, [2, 3], [1, 2, -1, 1, 3])], [(3, [4, 4], [1] * 8), (2, [5, 6], [1] * 11), PAIR],
    [PAIR, PAIR, PAIR], [ALL_EVEN, ELEVENS, ALONE_NOUGHT],
]
# No lists of one to three frames, though frames stand in most of them.
NO_TOGETHER = [
    [], (), {}, None, True, False, 0, 1, "", "frames", TICKET, (TICKET,), (TICKET, PAIR), ((TICKET,),), {0: TICKET},
    [[TICKET]], [(TICKET,)], [[TICKET, PAIR]], [TICKET, [PAIR]], [TICKET, None], [None, TICKET], [TICKET, PAIR, 3],
    [TICKET, True], [TICKET] * 4, [TICKET, PAIR, BITS, ELEVENS], [TICKET] * 50, [TICKET, []], [TICKET, ()],
    [10, [3, 3], [1] * 6], list(PAIR), [list(PAIR)], [TICKET, list(PAIR)], "10:1+1:1 1", ["10:1+1:1 1"],
]


def is_even_there(frame, n):
    """Whether n is an even number of the frame, by taking its figures off from behind."""
    base, parts, weights = frame
    sums = set()
    left = list(weights)
    rest = n
    for length in reversed(parts):
        total = 0
        for place in range(length):
            total += rest % base * left.pop()
            rest //= base
        sums.add(total)
    return rest == 0 and len(sums) == 1


def keeping_below(frames, below):
    return [n for n in range(below) if all(is_even_there(frame, n) for frame in frames)]


class KeepingTest(unittest.TestCase):
    def test_all_below(self):
        for frames in TOGETHER + [[frame] for frame in SMALL_FRAMES]:
            expected = keeping_below(frames, 3000)
            for n in [0, 1, 2, 11, 12, 100, 999, 2999, 3000]:
                with self.subTest(frames=frames, n=n):
                    self.assertEqual(all_keeping(frames, n), [each for each in expected if each < n])

    def test_whether_it_does(self):
        for frames in TOGETHER:
            expected = dict.fromkeys(keeping_below(frames, 4200))
            for n in range(4200):
                self.assertIs(keeps_all(frames, n), n in expected)

    def test_the_next_one(self):
        for frames in TOGETHER:
            expected = keeping_below(frames, 12000)
            for n in list(range(0, 11000, 371)) + [1, 2, 12, 99, 100, 1001, 1002, 9999, 10000]:
                with self.subTest(frames=frames, n=n):
                    following = [each for each in expected if n <= each < n + 1000]
                    self.assertEqual(next_keeping(frames, n), following[0] if following else None)

    def test_pairs_and_triples_of_small_frames(self):
        for place, frame in enumerate(SMALL_FRAMES):
            frames = [frame, SMALL_FRAMES[place - 1], SMALL_FRAMES[place - 2]]
            for together in [frames[:2], frames]:
                with self.subTest(together=together):
                    self.assertEqual(all_keeping(together, 300), keeping_below(together, 300))
                    self.assertEqual(all_keeping(list(reversed(together)), 300), keeping_below(together, 300))

    def test_known(self):
        self.assertEqual(all_keeping([ELEVENS], 3000), [0, 11, 22, 33, 44, 55, 66, 77, 88, 99])
        self.assertEqual(all_keeping([ELEVENS], 22), [0, 11])
        self.assertEqual(all_keeping([ELEVENS], 0), [])
        self.assertEqual(all_keeping([ELEVENS, ALONE_NOUGHT], 3000), [0])
        self.assertEqual(all_keeping([TICKET], 1101), [0, 1001, 1010, 1100])
        self.assertEqual(all_keeping([TICKET, PAIR], 1101), [0, 1001, 1010])
        self.assertEqual(all_keeping([ALL_OF_THE_BIGGEST], 3000), list(range(3000)))

    def test_a_thousand_numbers_are_looked_through(self):
        # Of the tickets from 1 on 1001 is the first.
        self.assertIsNone(next_keeping([TICKET], 1))
        self.assertEqual(next_keeping([TICKET], 2), 1001)
        self.assertEqual(next_keeping([TICKET], 1001), 1001)
        self.assertEqual(next_keeping([TICKET], 0), 0)
        self.assertIsNone(next_keeping([TICKET], 998999))
        self.assertEqual(next_keeping([TICKET], 999000), 999999)
        self.assertEqual(next_keeping([TICKET], 999999), 999999)
        self.assertIsNone(next_keeping([TICKET], 1000000))
        self.assertIsNone(next_keeping([ALONE_NOUGHT], 1))

    def test_numbers_beyond_a_frame_do_not_keep_it(self):
        self.assertIs(keeps_all([ALL_EVEN], 9999), True)
        self.assertIs(keeps_all([ALL_EVEN], 10000), False)
        self.assertIs(keeps_all([ALL_EVEN, ELEVENS], 99), True)
        self.assertIs(keeps_all([ALL_EVEN, ELEVENS], 110), False)
        self.assertEqual(next_keeping([ALL_EVEN], 9999), 9999)
        self.assertIsNone(next_keeping([ALL_EVEN], 10000))
        for n in [10 ** 6, FAR, 10 ** 40]:
            self.assertIs(keeps_all([TICKET], n), False)
            self.assertIsNone(next_keeping([TICKET, PAIR], n))

    def test_the_biggest_frames(self):
        many = 16 ** 24
        for n in [0, 1, 16 ** 20 + 5, many - 1000, many - 1]:
            self.assertIs(keeps_all([ALL_OF_THE_BIGGEST], n), True)
            self.assertEqual(next_keeping([ALL_OF_THE_BIGGEST], n), n)
        self.assertIs(keeps_all([ALL_OF_THE_BIGGEST], many), False)
        self.assertIsNone(next_keeping([ALL_OF_THE_BIGGEST], many))
        self.assertEqual(next_keeping([ALL_OF_THE_BIGGEST, BIG_FRAMES[0]], many - 1000), many - 1)
        self.assertEqual(all_keeping(BIG_FRAMES[:3], 3000), keeping_below(BIG_FRAMES[:3], 3000))


class OfAnythingTest(unittest.TestCase):
    def test_what_is_no_number_keeps_none(self):
        for frames in TOGETHER + [[ALL_OF_THE_BIGGEST]]:
            for thing in NO_WHOLES + [-1, -11, -FAR, 10 ** 40, TICKET, [TICKET], {0: {0: {0: [0]}}}]:
                with self.subTest(frames=frames, thing=thing):
                    self.assertIs(keeps_all(frames, thing), False)


class RefusalsTest(RefusalCase):
    def test_no_frames(self):
        for thing in NO_TOGETHER:
            with self.subTest(thing=thing):
                for asked in [keeps_all, all_keeping, next_keeping]:
                    self.assert_refused(NoFrames, asked, thing, 0)

    def test_a_list_with_something_that_is_no_frame(self):
        for thing in wrong_frames():
            with self.subTest(thing=thing):
                for frames in [[thing], [thing, TICKET], [TICKET, thing], [TICKET, PAIR, thing], (thing,)]:
                    for asked in [keeps_all, all_keeping, next_keeping]:
                        self.assert_refused(NoFrames, asked, frames, 0)

    def test_one_to_three_frames(self):
        for many in range(0, 8):
            frames = [ELEVENS] * many
            with self.subTest(many=many):
                if 1 <= many <= 3:
                    self.assertEqual(all_keeping(frames, 12), [0, 11])
                    self.assertEqual(next_keeping(frames, 1), 11)
                    self.assertIs(keeps_all(frames, 11), True)
                else:
                    for asked in [keeps_all, all_keeping, next_keeping]:
                        self.assert_refused(NoFrames, asked, frames, 0)

    def test_no_frames_ahead_of_no_number(self):
        for thing in NO_TOGETHER:
            for n in NO_WHOLES + [-1, 3001, FAR]:
                for asked in [keeps_all, all_keeping, next_keeping]:
                    with self.subTest(thing=thing, n=n, asked=asked):
                        self.assert_refused(NoFrames, asked, thing, n)

    def test_no_number_below(self):
        for frames in TOGETHER + [[ALL_OF_THE_BIGGEST]]:
            for n in NO_WHOLES + [-1, -2, 3001, 3002, FAR, -FAR]:
                with self.subTest(frames=frames, n=n):
                    self.assert_refused(NoNumber, all_keeping, frames, n)

    def test_no_number_to_look_from(self):
        for frames in TOGETHER + [[ALL_OF_THE_BIGGEST]]:
            for n in NO_WHOLES + [-1, -2, -1000, -FAR]:
                with self.subTest(frames=frames, n=n):
                    self.assert_refused(NoNumber, next_keeping, frames, n)
            self.assertIsNone(next_keeping(frames, 10 ** 40))


class OwnershipTest(unittest.TestCase):
    def test_nothing_handed_in_is_changed(self):
        for frames in TOGETHER:
            before = copied(frames)
            keeps_all(frames, 11)
            all_keeping(frames, 50)
            next_keeping(frames, 50)
            self.assertEqual(frames, before)

    def test_wrong_things_handed_in_are_not_changed(self):
        for thing in [[], [0], {}, {0: 1}, [[1]], [TICKET, [1]], [TICKET] * 4]:
            before = copied(thing)
            for asked in [keeps_all, all_keeping, next_keeping]:
                with self.assertRaises(NoFrames):
                    asked(thing, thing)
            for asked in [all_keeping, next_keeping]:
                with self.assertRaises(NoNumber):
                    asked([TICKET], thing)
            self.assertIs(keeps_all([TICKET], thing), False)
            self.assertEqual(thing, before)

    def test_told_lists_are_the_askers_own(self):
        frames = [ELEVENS]
        first = all_keeping(frames, 40)
        second = all_keeping(frames, 40)
        self.assertIs(type(first), list)
        self.assertIsNot(first, second)
        first.append(5)
        first[0] = 77
        self.assertEqual(second, [0, 11, 22, 33])
        self.assertEqual(all_keeping(frames, 40), [0, 11, 22, 33])
        second.clear()
        self.assertEqual(all_keeping(frames, 40), [0, 11, 22, 33])
        self.assertEqual(next_keeping(frames, 1), 11)
        nothing = all_keeping(frames, 0)
        nothing.append(1)
        self.assertEqual(all_keeping(frames, 0), [])

    def test_frames_changed_by_the_asker_are_taken_as_they_are_now(self):
        frames = [(10, [1, 1], [1, 1])]
        self.assertEqual(all_keeping(frames, 40), [0, 11, 22, 33])
        frames[0][2][0] = 2
        self.assertEqual(all_keeping(frames, 40), [0, 12, 24, 36])
        self.assertEqual(next_keeping(frames, 13), 24)
        self.assertIs(keeps_all(frames, 11), False)
        frames.append(ELEVENS)
        self.assertEqual(all_keeping(frames, 40), [0])

    def test_the_same_again(self):
        for frames in TOGETHER:
            self.assertEqual(all_keeping(frames, 1200), all_keeping(frames, 1200))
            self.assertEqual(next_keeping(frames, 5), next_keeping(frames, 5))
            self.assertEqual(keeps_all(frames, 11), keeps_all(frames, 11))


if __name__ == "__main__":
    unittest.main()
