"""Frames written as texts, and read back."""

from likehalves.errors import NoText
from likehalves.frames import is_frame, need_frame

FIGURES = "0123456789"


def is_written(text, most):
    # At most so many figures, and no 0 ahead of another one.
    if not 1 <= len(text) <= most or (len(text) > 1 and text[0] == "0"):
        return False
    return all([sign in FIGURES for sign in text])


def is_written_with_sign(text, most):
    if text.startswith("-"):
        return text != "-0" and is_written(text[1:], most)
    return is_written(text, most)


def joined_by(sign, numbers):
    return sign.join([str(number) for number in numbers])


def show_frame(frame):
    need_frame(frame)
    return ":".join([str(frame[0]), joined_by("+", frame[1]), joined_by(" ", frame[2])])


def is_writing(base, parts, weights):
    # No base has more than two figures, no part and no weight more than one.
    if not is_written(base, 2) or not all([is_written(part, 1) for part in parts]):
        return False
    return all([is_written_with_sign(weight, 1) for weight in weights])


def frame_or_none(text):
    if not isinstance(text, str):
        return None
    pieces = text.split(":")
    if len(pieces) != 3:
        return None
    parts = pieces[1].split("+")
    weights = pieces[2].split(" ")
    if not is_writing(pieces[0], parts, weights):
        return None
    frame = (int(pieces[0]), [int(part) for part in parts], [int(weight) for weight in weights])
    return frame if is_frame(frame) else None


def read_frame(text):
    frame = frame_or_none(text)
    if frame is None:
        raise NoText("this writes no frame")
    return frame
