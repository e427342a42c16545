"""The whole program, held against going through all numbers of small frames one by one."""

import random
import unittest

from likehalves import counted, frames, sums, together, turned, which
from likehalves.desk import Desk
from likehalves.errors import NoEven
from likehalves.keeper import Keeper
from likehalves.texts import read_frame, show_frame
from samples import RefusalCase, copied

FAR = 10 ** 25


def figures_there(frame, n):
    """A number's figures by taking off the greatest stand first."""
    told = []
    for place in range(len(frame[2]) - 1, -1, -1):
        told.append(n // frame[0] ** place)
        n -= told[-1] * frame[0] ** place
    return told


def sums_there(frame, n):
    row = [figure * weight for figure, weight in zip(figures_there(frame, n), frame[2])]
    ends = [sum(frame[1][:place]) for place in range(len(frame[1]) + 1)]
    return [sum(row[start:end]) for start, end in zip(ends, ends[1:])]


class Numbers:
    """All numbers of a frame, one by one."""

    def __init__(self, frame):
        self.many = frame[0] ** len(frame[2])
        self.figures = [figures_there(frame, n) for n in range(self.many)]
        self.sums = [sums_there(frame, n) for n in range(self.many)]
        self.misses = [max(each) - min(each) for each in self.sums]
        self.even = self.near(0)
        self.even_sums = [self.sums[n][0] for n in self.even]

    def near(self, d):
        return [n for n in range(self.many) if self.misses[n] <= d]


def small_frame(chance):
    while True:
        base = chance.choice([2, 2, 3, 4, 5, 7, 10, 16])
        parts = [chance.randint(1, 4) for part in range(chance.randint(2, 4))]
        if base ** sum(parts) <= 260:
            return (base, parts, [chance.choice([chance.randint(-9, 9), 0, 1, 1, -1]) for place in range(sum(parts))])


def small_frames(seed, many):
    chance = random.Random(seed)
    return [small_frame(chance) for again in range(many)] + [(2, [1, 6], [9, 1, -1, 2, 3, 4, 0]), (2, [1, 1], [-9, 9])]


class WholeTest(RefusalCase):
    def test_numbers_one_by_one(self):
        for frame in small_frames(1, 40):
            numbers = Numbers(frame)
            with self.subTest(frame=frame):
                self.assertEqual(frames.how_many(frame), numbers.many)
                for n in range(numbers.many):
                    self.assertEqual(frames.figures_of(frame, n), numbers.figures[n])
                    self.assertEqual(frames.part_sums(frame, n), numbers.sums[n])
                    self.assertEqual(frames.misses_by(frame, n), numbers.misses[n])
                    self.assertIs(frames.is_even(frame, n), numbers.misses[n] == 0)

    def test_counts(self):
        for frame in small_frames(2, 40):
            numbers = Numbers(frame)
            with self.subTest(frame=frame):
                self.assertEqual(counted.count_even(frame), len(numbers.even))
                by_sums = {s: numbers.even_sums.count(s) for s in numbers.even_sums}
                self.assertEqual(counted.even_by_sums(frame), by_sums)
                for s in range(min(by_sums) - 2, max(by_sums) + 3):
                    self.assertEqual(counted.count_even_with(frame, s), by_sums.get(s, 0))
                for d in list(range(max(numbers.misses) + 3)) + [FAR]:
                    self.assertEqual(counted.count_missing(frame, d), numbers.misses.count(d))
                    self.assertEqual(counted.count_near(frame, d), len(numbers.near(d)))
                for part, length in enumerate(frame[1]):
                    told = [each[part] for each in numbers.sums]
                    over = numbers.many // frame[0] ** length
                    ways = {s: told.count(s) // over for s in told}
                    self.assertEqual(counted.ways_of_part(frame, part), ways)

    def test_which_are_even(self):
        for frame in small_frames(3, 16):
            numbers = Numbers(frame)
            with self.subTest(frame=frame):
                for n in range(numbers.many + 1):
                    below = [each for each in numbers.even if each < n]
                    from_here = [each for each in numbers.even if each >= n]
                    self.assertEqual(which.even_below(frame, n), len(below))
                    self.assertEqual(which.last_even(frame, n), below[-1] if below else None)
                    self.assertEqual(which.next_even(frame, n), from_here[0] if from_here else None)
                    if n in numbers.even:
                        self.assertEqual(which.place_of(frame, n), len(below))
                    else:
                        self.assert_refused(NoEven, which.place_of, frame, n)
                for k in range(len(numbers.even) + 2):
                    expected = numbers.even[k] if k < len(numbers.even) else None
                    self.assertEqual(which.even_by(frame, k), expected)

    def test_which_are_near(self):
        for frame in small_frames(4, 12):
            numbers = Numbers(frame)
            greatest = max(numbers.misses)
            for d in sorted({0, 1, 2, greatest // 2, max(greatest - 1, 0), greatest, greatest + 1, FAR}):
                near = numbers.near(d)
                with self.subTest(frame=frame, d=d):
                    for n in range(0, numbers.many + 1, 3):
                        below = [each for each in near if each < n]
                        self.assertEqual(which.near_below(frame, d, n), len(below))
                        if n in near:
                            self.assertEqual(which.near_place(frame, d, n), len(below))
                        else:
                            self.assert_refused(NoEven, which.near_place, frame, d, n)
                    for k in list(range(0, len(near), 5)) + [len(near) - 1]:
                        self.assertEqual(which.near_by(frame, d, k), near[k])
                    self.assertIsNone(which.near_by(frame, d, len(near)))

    def test_sums(self):
        for frame in small_frames(5, 30):
            numbers = Numbers(frame)
            greatest = max(numbers.even_sums)
            having = [n for n in numbers.even if numbers.sums[n][0] == greatest]
            with self.subTest(frame=frame):
                self.assertEqual(sums.sum_even(frame), sum(numbers.even))
                for n in range(numbers.many + 1):
                    self.assertEqual(sums.sum_even_below(frame, n), sum(each for each in numbers.even if each < n))
                self.assertEqual(sums.least_sum(frame), min(numbers.even_sums))
                self.assertEqual(sums.greatest_sum(frame), greatest)
                self.assertEqual(sums.first_greatest(frame), (having[0], len(having)))

    def test_frames_together(self):
        some = small_frames(6, 40)
        for place in range(0, len(some) - 2):
            for together_now in [some[place:place + 1], some[place:place + 2], some[place:place + 3]]:
                keeping = self.keeping(together_now)
                with self.subTest(frames=together_now):
                    self.assertEqual(together.all_keeping(together_now, 3000), keeping)
                    for n in range(0, 270, 13):
                        self.assertIs(together.keeps_all(together_now, n), n in keeping)
                        from_here = [each for each in keeping if each >= n]
                        self.assertEqual(together.next_keeping(together_now, n), from_here[0] if from_here else None)

    def keeping(self, together_now):
        even = [Numbers(frame).even for frame in together_now]
        return [n for n in even[0] if all(n in each for each in even)]

    def test_frames_turned(self):
        for frame in small_frames(7, 40):
            numbers = Numbers(frame)
            from_behind = [turned.from_behind(frame, n) for n in range(numbers.many)]
            round_numbers = Numbers(turned.turned_round(frame))
            signs_numbers = Numbers(turned.signs_turned(frame))
            with self.subTest(frame=frame):
                for n in range(numbers.many):
                    self.assertEqual(numbers.figures[from_behind[n]], numbers.figures[n][::-1])
                self.assertEqual(round_numbers.even, sorted(from_behind[n] for n in numbers.even))
                self.assertEqual(signs_numbers.even, numbers.even)
                self.assertEqual(signs_numbers.misses, numbers.misses)

    def test_a_keeper_with_a_weight_changed_and_undone(self):
        chance = random.Random(8)
        for frame in small_frames(8, 25):
            keeper = Keeper(frame)
            place = chance.randrange(len(frame[2]))
            changed = copied(frame)
            changed[2][place] = chance.randint(-9, 9)
            numbers = Numbers(frame)
            later = Numbers(changed)
            with self.subTest(frame=frame, changed=changed):
                self.assert_kept(keeper, frame, numbers)
                counts = (len(numbers.even), len(later.even))
                self.assertEqual(keeper.weigh(place, changed[2][place]), counts)
                self.assert_kept(keeper, changed, later)
                self.assertEqual(keeper.undo(), (counts[1], counts[0]))
                self.assert_kept(keeper, frame, numbers)

    def assert_kept(self, keeper, frame, numbers):
        self.assertEqual(keeper.frame(), frame)
        for k in range(0, len(numbers.even), 3):
            self.assertEqual(keeper.even(k), numbers.even[k])
        self.assertIsNone(keeper.even(len(numbers.even)))
        for d in list(range(0, max(numbers.misses) + 2, 2)) + [FAR]:
            self.assertEqual(keeper.near(d), len(numbers.near(d)))

    def test_a_desk(self):
        for frame in small_frames(9, 12):
            desk = Desk()
            self.assertEqual(desk.say("frame it " + show_frame(frame)), "ok")
            self.assertEqual(read_frame(desk.say("show it")), frame)
            self.assert_answered(desk, Numbers(frame))
            changed = copied(frame)
            changed[2][-1] = -5
            self.assertEqual(desk.say(f"weigh it {len(frame[2]) - 1} -5"), "ok")
            self.assertEqual(read_frame(desk.say("show it")), changed)
            self.assert_answered(desk, Numbers(changed))

    def assert_answered(self, desk, numbers):
        even = numbers.even
        self.assertEqual(desk.say("many it"), str(len(even)))
        for n in range(0, numbers.many, 7):
            self.assertEqual(desk.say(f"miss it {n}"), str(numbers.misses[n]))
            self.assertEqual(desk.say(f"sums it {n}"), " ".join(str(each) for each in numbers.sums[n]))
            self.assertEqual(desk.say(f"below it {n}"), str(len([each for each in even if each < n])))
            self.assertEqual(desk.say(f"next it {n}"), str(min([each for each in even if each >= n], default="none")))
            self.assertEqual(desk.say(f"last it {n}"), str(max([each for each in even if each < n], default="none")))
        for k in range(len(even) + 1):
            self.assertEqual(desk.say(f"nth it {k}"), str(even[k]) if k < len(even) else "none")
        for d in range(0, max(numbers.misses) + 2, 3):
            self.assertEqual(desk.say(f"near it {d}"), str(len(numbers.near(d))))


if __name__ == "__main__":
    unittest.main()
