"""Frames turned: their parts the other way round, or the signs of all weights turned; and numbers from behind."""

from likehalves.begun import number_of
from likehalves.frames import figures_of, need_frame


def turned_round(frame):
    need_frame(frame)
    return (frame[0], list(reversed(frame[1])), list(reversed(frame[2])))


def signs_turned(frame):
    need_frame(frame)
    return (frame[0], list(frame[1]), [-weight for weight in frame[2]])


def from_behind(frame, n):
    figures = figures_of(frame, n)
    return number_of(frame[0], list(reversed(figures)))
