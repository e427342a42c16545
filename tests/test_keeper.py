import random
import unittest

from likehalves.counted import count_even, count_near
from likehalves.errors import NoFrame, NoMiss, NoNumber, NoPart
from likehalves.frames import how_many
from likehalves.keeper import Keeper
from likehalves.which import even_by
from samples import BIG_FRAMES, MIDDLE_FRAMES, NO_WHOLES, SMALL_FRAMES, RefusalCase, all_part_sums, copied, wrong_frames

TICKET = (10, [3, 3], [1, 1, 1, 1, 1, 1])
ELEVENS = (10, [1, 1], [1, 1])
NINES_APART = (16, [6, 6, 6, 6], [9] * 6 + [-9] * 6 + [1, 2, 3, 4, 5, 6] * 2)
FAR = 10 ** 25
NO_PLACES = NO_WHOLES + [-1, -2, -FAR, FAR, TICKET, {0: {0: {0: [0]}}}]
NO_WEIGHTS = NO_WHOLES + [-10, 10, -11, 11, -FAR, FAR, TICKET, {0: {0: {0: [0]}}}]
NO_MISSES = NO_WHOLES + [-1, -2, -FAR, TICKET, {0: {0: {0: [0]}}}]


def with_weight_there(frame, place, weight):
    base, parts, weights = copied(frame)
    return (base, parts, weights[:place] + [weight] + weights[place + 1:])


def even_ones(frame):
    return [n for n, sums in enumerate(all_part_sums(frame)) if len(set(sums)) == 1]


class KeeperCase(RefusalCase):
    def assert_stands(self, keeper, frame, changes):
        """That the Keeper tells what the earlier stages tell of the frame."""
        self.assertEqual(keeper.frame(), frame)
        self.assertEqual(keeper.changes(), changes)
        for d in [0, 1, 5, FAR]:
            self.assertEqual(keeper.near(d), count_near(frame, d))
        count = count_even(frame)
        for k in [0, 1, count // 2, count - 1, count, FAR]:
            self.assertEqual(keeper.even(k), even_by(frame, k))


class ChangesTest(KeeperCase):
    def test_known(self):
        keeper = Keeper(ELEVENS)
        self.assertEqual(keeper.frame(), ELEVENS)
        self.assertEqual(keeper.changes(), 0)
        self.assertEqual(keeper.near(0), 10)
        self.assertEqual(keeper.near(1), 28)
        self.assertEqual(keeper.even(1), 11)
        # Twice the first figure is the second one: 0, 12, 24, 36, 48.
        self.assertEqual(keeper.weigh(0, 2), (10, 5))
        self.assertEqual(keeper.frame(), (10, [1, 1], [2, 1]))
        self.assertEqual(keeper.changes(), 1)
        self.assertEqual(keeper.even(1), 12)
        self.assertEqual(keeper.even(4), 48)
        self.assertIsNone(keeper.even(5))
        self.assertEqual(keeper.weigh(1, -1), (5, 1))
        self.assertEqual(keeper.frame(), (10, [1, 1], [2, -1]))
        self.assertEqual(keeper.changes(), 2)
        self.assertIsNone(keeper.even(1))
        self.assertEqual(keeper.undo(), (1, 5))
        self.assertEqual(keeper.frame(), (10, [1, 1], [2, 1]))
        self.assertEqual(keeper.changes(), 1)
        self.assertEqual(keeper.undo(), (5, 10))
        self.assertEqual(keeper.frame(), ELEVENS)
        self.assertEqual(keeper.changes(), 0)

    def test_the_first_and_the_last_place(self):
        for frame in SMALL_FRAMES + [TICKET, NINES_APART]:
            last = len(frame[2]) - 1
            for place in [0, last]:
                for weight in [-9, -1, 0, 9]:
                    with self.subTest(frame=frame, place=place, weight=weight):
                        keeper = Keeper(frame)
                        changed = with_weight_there(frame, place, weight)
                        self.assertEqual(keeper.weigh(place, weight), (count_even(frame), count_even(changed)))
                        self.assertEqual(keeper.frame(), changed)

    def test_every_weight_of_a_small_frame(self):
        frame = (4, [2, 1], [1, 2, 3])
        for place in range(3):
            for weight in range(-9, 10):
                keeper = Keeper(frame)
                changed = with_weight_there(frame, place, weight)
                even = even_ones(changed)
                before = len(even_ones(frame))
                self.assertEqual(keeper.weigh(place, weight), (before, len(even)))
                self.assertEqual([keeper.even(k) for k in range(len(even) + 1)], even + [None])
                self.assertEqual(keeper.undo(), (len(even), before))

    def test_a_weight_that_comes_again_is_a_change(self):
        keeper = Keeper(TICKET)
        self.assertEqual(keeper.weigh(2, 1), (55252, 55252))
        self.assertEqual(keeper.changes(), 1)
        self.assertEqual(keeper.frame(), TICKET)
        later = keeper.weigh(2, 5)[1]
        self.assertEqual(keeper.weigh(2, 5), (later, later))
        self.assertEqual(keeper.changes(), 3)
        self.assertEqual(keeper.undo(), (later, later))
        self.assertEqual(keeper.frame()[2], [1, 1, 5, 1, 1, 1])
        self.assertEqual(keeper.undo(), (later, 55252))
        self.assertEqual(keeper.undo(), (55252, 55252))
        self.assertEqual(keeper.changes(), 0)

    def test_undo_down_to_none_left_and_once_more(self):
        keeper = Keeper(TICKET)
        frames = [copied(TICKET)]
        for step in range(12):
            place = step * 5 % 6
            weight = step * 7 % 19 - 9
            frames.append(with_weight_there(frames[-1], place, weight))
            keeper.weigh(place, weight)
        while len(frames) > 1:
            self.assert_stands(keeper, frames[-1], len(frames) - 1)
            undone = frames.pop()
            self.assertEqual(keeper.undo(), (count_even(undone), count_even(frames[-1])))
        for again in range(3):
            self.assert_stands(keeper, TICKET, 0)
            self.assert_refused(NoNumber, keeper.undo)
        self.assertEqual(keeper.weigh(0, 9)[0], 55252)
        self.assertEqual(keeper.changes(), 1)

    def test_a_change_behind_an_undoing(self):
        keeper = Keeper(ELEVENS)
        keeper.weigh(0, 2)
        keeper.weigh(1, 3)
        keeper.undo()
        keeper.weigh(1, 4)
        self.assertEqual(keeper.frame(), (10, [1, 1], [2, 4]))
        keeper.undo()
        self.assertEqual(keeper.frame(), (10, [1, 1], [2, 1]))
        keeper.undo()
        self.assertEqual(keeper.frame(), ELEVENS)
        self.assert_refused(NoNumber, keeper.undo)

    def test_told_is_as_anew_whatever_weights_change(self):
        chance = random.Random(13)
        for frame in SMALL_FRAMES + MIDDLE_FRAMES[:2] + BIG_FRAMES[:2] + [NINES_APART]:
            keeper = Keeper(frame)
            frames = [copied(frame)]
            for step in range(60):
                self.one_step(chance, keeper, frames)
                if step % 12 == 11:
                    self.assert_stands(keeper, frames[-1], len(frames) - 1)

    def one_step(self, chance, keeper, frames):
        now = frames[-1]
        choice = chance.randrange(6)
        if choice == 0:
            self.assert_refused(NoPart, keeper.weigh, len(now[2]), chance.randint(-9, 9))
            self.assert_refused(NoNumber, keeper.weigh, 0, chance.choice([-10, 10]))
            self.assertEqual(keeper.frame(), now)
        if choice <= 2 and len(frames) > 1:
            undone = frames.pop()
            self.assertEqual(keeper.undo(), (count_even(undone), count_even(frames[-1])))
        else:
            place = chance.randrange(len(now[2]))
            weight = chance.randint(-9, 9)
            frames.append(with_weight_there(now, place, weight))
            self.assertEqual(keeper.weigh(place, weight), (count_even(now), count_even(frames[-1])))

    def test_all_numbers_of_small_frames(self):
        for frame in SMALL_FRAMES:
            keeper = Keeper(frame)
            place = len(frame[2]) // 2
            changed = with_weight_there(frame, place, 3)
            counts = (len(even_ones(frame)), len(even_ones(changed)))
            self.assertEqual(keeper.weigh(place, 3), counts)
            self.assert_small(keeper, changed)
            self.assertEqual(keeper.undo(), (counts[1], counts[0]))
            self.assert_small(keeper, frame)

    def assert_small(self, keeper, frame):
        misses = [max(sums) - min(sums) for sums in all_part_sums(frame)]
        even = even_ones(frame)
        for d in list(range(0, max(misses) + 2, 3)) + [max(misses), FAR]:
            self.assertEqual(keeper.near(d), len([miss for miss in misses if miss <= d]))
        for k in list(range(0, len(even), len(even) // 7 + 1)) + [len(even) - 1]:
            self.assertEqual(keeper.even(k), even[k])
        for k in [len(even), len(even) + 1, FAR]:
            self.assertIsNone(keeper.even(k))

    def test_sixty_changes_and_undoings_of_the_biggest_frame(self):
        keeper = Keeper(NINES_APART)
        self.assertEqual(keeper.near(FAR), 16 ** 24)
        self.assertEqual(keeper.near(10 ** 40), 16 ** 24)
        self.assertEqual(keeper.even(0), 0)
        # Sums from 0 on stand against sums up to 0, so that 0 alone is even.
        self.assertIsNone(keeper.even(1))
        self.assertIsNone(keeper.even(10 ** 40))
        for place in range(24):
            keeper.weigh(place, 0)
        self.assertEqual(keeper.changes(), 24)
        self.assertEqual(keeper.near(0), 16 ** 24)
        self.assertEqual(keeper.even(16 ** 24 - 1), 16 ** 24 - 1)
        self.assertEqual(keeper.even(12345678901234567890), 12345678901234567890)
        self.assertIsNone(keeper.even(16 ** 24))
        for place in range(5):
            keeper.weigh(place, 1)
        # Five figures of the first part are noughts then, all others are free.
        self.assertEqual(keeper.weigh(0, 1), (16 ** 19, 16 ** 19))
        for again in range(5):
            keeper.undo()
        self.assertEqual(keeper.undo(), (16 ** 23, 16 ** 24))
        for again in range(24):
            keeper.undo()
        self.assert_stands(keeper, NINES_APART, 0)
        self.assert_refused(NoNumber, keeper.undo)


class RefusalsTest(KeeperCase):
    def test_no_frame(self):
        for thing in wrong_frames():
            with self.subTest(thing=thing):
                self.assert_refused(NoFrame, Keeper, thing)

    def changed_keeper(self, frame):
        keeper = Keeper(frame)
        keeper.weigh(0, 4)
        keeper.weigh(len(frame[2]) - 1, -3)
        return keeper, with_weight_there(with_weight_there(frame, 0, 4), len(frame[2]) - 1, -3)

    def test_no_part(self):
        for frame in [TICKET, ELEVENS, NINES_APART, (2, [6, 1], [1] * 7)]:
            keeper, now = self.changed_keeper(frame)
            for place in NO_PLACES + [len(frame[2]), len(frame[2]) + 1, -len(frame[2])]:
                with self.subTest(frame=frame, place=place):
                    self.assert_refused(NoPart, keeper.weigh, place, 1)
                    self.assertEqual(keeper.frame(), now)
            self.assert_stands(keeper, now, 2)

    def test_no_weight(self):
        for frame in [TICKET, ELEVENS, NINES_APART, (2, [6, 1], [1] * 7)]:
            keeper, now = self.changed_keeper(frame)
            for weight in NO_WEIGHTS:
                for place in [0, len(frame[2]) - 1]:
                    with self.subTest(frame=frame, place=place, weight=weight):
                        self.assert_refused(NoNumber, keeper.weigh, place, weight)
                        self.assertEqual(keeper.frame(), now)
            self.assert_stands(keeper, now, 2)

    def test_no_part_ahead_of_no_weight(self):
        keeper, now = self.changed_keeper(ELEVENS)
        for place in NO_PLACES + [2]:
            for weight in NO_WEIGHTS:
                self.assert_refused(NoPart, keeper.weigh, place, weight)
        self.assert_stands(keeper, now, 2)

    def test_no_miss(self):
        keeper, now = self.changed_keeper(TICKET)
        for d in NO_MISSES:
            with self.subTest(d=d):
                self.assert_refused(NoMiss, keeper.near, d)
        self.assert_stands(keeper, now, 2)

    def test_no_place_among_the_even_ones(self):
        keeper, now = self.changed_keeper(TICKET)
        for k in NO_MISSES:
            with self.subTest(k=k):
                self.assert_refused(NoNumber, keeper.even, k)
        self.assert_stands(keeper, now, 2)

    def test_what_is_refused_is_not_undone(self):
        keeper = Keeper(ELEVENS)
        self.assert_refused(NoPart, keeper.weigh, 2, 5)
        self.assert_refused(NoNumber, keeper.weigh, 1, 10)
        self.assert_refused(NoNumber, keeper.undo)
        keeper.weigh(0, 2)
        self.assert_refused(NoPart, keeper.weigh, -1, 5)
        self.assert_refused(NoNumber, keeper.weigh, 0, True)
        self.assertEqual(keeper.undo(), (5, 10))
        self.assert_refused(NoNumber, keeper.undo)
        self.assert_stands(keeper, ELEVENS, 0)


class OwnershipTest(KeeperCase):
    def test_nothing_handed_in_is_changed(self):
        for frame in SMALL_FRAMES + BIG_FRAMES:
            handed = copied(frame)
            keeper = Keeper(handed)
            keeper.weigh(0, 9)
            keeper.weigh(1, -9)
            keeper.undo()
            keeper.near(1)
            keeper.even(0)
            self.assertEqual(handed, frame)

    def test_wrong_things_handed_in_are_not_changed(self):
        keeper = Keeper(ELEVENS)
        for thing in [[10, [1, 1], [1, 1]], {"a": [1]}, [[1]], (10, [[1]], [[1]])]:
            before = copied(thing)
            self.assert_refused(NoFrame, Keeper, thing)
            self.assert_refused(NoPart, keeper.weigh, thing, thing)
            self.assert_refused(NoNumber, keeper.weigh, 0, thing)
            self.assert_refused(NoMiss, keeper.near, thing)
            self.assert_refused(NoNumber, keeper.even, thing)
            self.assertEqual(thing, before)

    def test_the_handed_in_frame_is_not_kept(self):
        frame = (10, [1, 1], [1, 1])
        keeper = Keeper(frame)
        frame[2][0] = 7
        frame[1][1] = 5
        frame[2].append(3)
        self.assert_stands(keeper, ELEVENS, 0)
        self.assertEqual(keeper.weigh(1, 2), (10, 5))
        frame[2].clear()
        frame[1].clear()
        self.assertEqual(keeper.undo(), (5, 10))
        self.assert_stands(keeper, ELEVENS, 0)

    def test_told_frames_are_the_askers_own(self):
        keeper = Keeper(ELEVENS)
        told = [keeper.frame(), keeper.frame()]
        keeper.weigh(0, 2)
        told += [keeper.frame(), keeper.frame()]
        keeper.undo()
        told.append(keeper.frame())
        self.assertEqual(told, [ELEVENS, ELEVENS, (10, [1, 1], [2, 1]), (10, [1, 1], [2, 1]), ELEVENS])
        self.assertEqual(len({id(each) for frame in told for each in frame[1:]}), 10)
        for frame in told:
            self.assertIs(type(frame), tuple)
            self.assertEqual([type(each) for each in frame], [int, list, list])
            frame[1].append(3)
            frame[2][1] = 8
            frame[2].extend([1, 1, 1])
        self.assert_stands(keeper, ELEVENS, 0)
        self.assertEqual(keeper.weigh(0, 2), (10, 5))
        keeper.frame()[2][0] = 9
        self.assert_stands(keeper, (10, [1, 1], [2, 1]), 1)
        keeper.frame()[2].clear()
        self.assertEqual(keeper.undo(), (5, 10))

    def test_two_keepers_are_apart(self):
        frame = copied(ELEVENS)
        one = Keeper(frame)
        other = Keeper(frame)
        one.weigh(0, 2)
        self.assert_stands(one, (10, [1, 1], [2, 1]), 1)
        self.assert_stands(other, ELEVENS, 0)
        self.assert_refused(NoNumber, other.undo)
        other.weigh(1, 3)
        other.weigh(0, 3)
        self.assert_stands(one, (10, [1, 1], [2, 1]), 1)
        self.assert_stands(other, (10, [1, 1], [3, 3]), 2)
        heir = Keeper(one.frame())
        one.undo()
        self.assert_stands(heir, (10, [1, 1], [2, 1]), 0)
        self.assert_stands(one, ELEVENS, 0)
        self.assertEqual(frame, ELEVENS)

    def test_told_are_tuples_and_whole_numbers(self):
        keeper = Keeper(TICKET)
        for told in [keeper.weigh(0, 3), keeper.weigh(0, 3), keeper.undo()]:
            self.assertIs(type(told), tuple)
            self.assertEqual([type(each) for each in told], [int, int])
        for told in [keeper.near(1), keeper.even(1), keeper.changes()]:
            self.assertIs(type(told), int)

    def test_the_same_again(self):
        for frame in SMALL_FRAMES + BIG_FRAMES:
            keeper = Keeper(frame)
            keeper.weigh(1, 5)
            self.assertEqual(keeper.frame(), keeper.frame())
            self.assertEqual(keeper.near(3), keeper.near(3))
            self.assertEqual(keeper.even(1), keeper.even(1))
            self.assertEqual(keeper.even(how_many(frame)), keeper.even(how_many(frame)))
            self.assertEqual(keeper.changes(), keeper.changes())
            first = keeper.weigh(0, 2)
            back = keeper.undo()
            self.assertEqual(keeper.weigh(0, 2), first)
            self.assertEqual(keeper.undo(), back)
            self.assertEqual(back, (first[1], first[0]))


if __name__ == "__main__":
    unittest.main()
