"""Numbers that are even in each of one to three frames."""

from likehalves.errors import NoFrames, NoNumber
from likehalves.frames import how_many, is_between, is_even, is_frame, is_whole

GREATEST_BOUND = 3000
LOOKED_THROUGH = 1000


def need_frames(thing):
    if not isinstance(thing, list) or not 1 <= len(thing) <= 3 or not all([is_frame(each) for each in thing]):
        raise NoFrames("frames together are a list of one to three frames")


def is_even_number_of(frame, thing):
    return is_between(thing, 0, how_many(frame) - 1) and is_even(frame, thing)


def keeps_each(frames, thing):
    for frame in frames:
        if not is_even_number_of(frame, thing):
            return False
    return True


def keeps_all(frames, thing):
    need_frames(frames)
    return keeps_each(frames, thing)


def all_keeping(frames, n):
    need_frames(frames)
    if not is_between(n, 0, GREATEST_BOUND):
        raise NoNumber("numbers are told below a whole number from 0 to 3000")
    return [number for number in range(n) if keeps_each(frames, number)]


def next_keeping(frames, n):
    need_frames(frames)
    if not is_whole(n) or n < 0:
        raise NoNumber("numbers are looked for from a whole number from 0 on")
    for number in range(n, n + LOOKED_THROUGH):
        if keeps_each(frames, number):
            return number
    return None
