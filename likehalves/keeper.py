"""A Keeper: a frame whose weights are changed, and the changes undone."""

from likehalves.counted import count_even, count_near
from likehalves.errors import NoNumber, NoPart
from likehalves.frames import is_between, need_frame
from likehalves.which import even_by


def copy_of(frame):
    return (frame[0], list(frame[1]), list(frame[2]))


def with_weight(frame, place, weight):
    if not is_between(place, 0, len(frame[2]) - 1):
        raise NoPart("no weight stands at this place")
    if not is_between(weight, -9, 9):
        raise NoNumber("a weight is a whole number from -9 to 9")
    changed = copy_of(frame)
    changed[2][place] = weight
    return changed


class Keeper:
    def __init__(self, frame):
        need_frame(frame)
        # The frame at the beginning, then one for each change that stands; the last one is the frame as it is now.
        self.standing = [copy_of(frame)]

    def weigh(self, place, weight):
        earlier = self.standing[-1]
        later = with_weight(earlier, place, weight)
        self.standing.append(later)
        return (count_even(earlier), count_even(later))

    def undo(self):
        if self.changes() == 0:
            raise NoNumber("no change is left to undo")
        undone = self.standing.pop()
        return (count_even(undone), count_even(self.standing[-1]))

    def frame(self):
        return copy_of(self.standing[-1])

    def near(self, d):
        return count_near(self.standing[-1], d)

    def even(self, k):
        return even_by(self.standing[-1], k)

    def changes(self):
        return len(self.standing) - 1
