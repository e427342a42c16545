import re
import unittest

from likehalves.errors import NoFrame, NoText
from likehalves.frames import is_frame
from likehalves.texts import read_frame, show_frame
from samples import BIG_FRAMES, MIDDLE_FRAMES, NO_WHOLES, SMALL_FRAMES, RefusalCase, copied, wrong_frames

TICKET = (10, [3, 3], [1, 1, 1, 1, 1, 1])
TICKET_TEXT = "10:3+3:1 1 1 1 1 1"
WRITINGS = {
    TICKET_TEXT: TICKET,
    "2:1+1:0 0": (2, [1, 1], [0, 0]),
    "16:1+1:-9 9": (16, [1, 1], [-9, 9]),
    "3:1+2+1:1 -1 0 9": (3, [1, 2, 1], [1, -1, 0, 9]),
    "9:1+1+1+1:-1 -2 -3 -4": (9, [1, 1, 1, 1], [-1, -2, -3, -4]),
    "16:6+6+6+6:" + " ".join(["-9"] * 24): (16, [6, 6, 6, 6], [-9] * 24),
    "16:6+1:1 2 3 4 5 6 7": (16, [6, 1], [1, 2, 3, 4, 5, 6, 7]),
}
WRONG_TEXTS = [
    "", " ", ":", "::", ":::", "10", "10:", "10:3+3", "10:3+3:", ":3+3:1 1 1 1 1 1", "10::1 1 1 1 1 1",
    "010:3+3:1 1 1 1 1 1", "10:03+3:1 1 1 1 1 1", "10:3+03:1 1 1 1 1 1", "10:3+3:01 1 1 1 1 1",
    "10:3+3:1 1 1 1 1 01", "10:3+3:1 1 1 00 1 1", "10:3+3:1 1 1 -0 1 1", "10:3+3:-0 1 1 1 1 1",
    "10:3+3:1 1 1 1 1 -0", "10:3+3:1 1 1 -01 1 1", "10:3+3:1 1 1 -00 1 1", "10:3+3:1 1 1 --1 1 1",
    "10:3+3:1 1 1 +1 1 1", "10:3+3:1 1 1 - 1 1", "10:3+3:1 1 1 - 1 1 1", "10:3+3:1 1 1 1- 1 1", "-10:3+3:1 1 1 1 1 1",
    "10:-3+3:1 1 1 1 1 1", "10:3-3:1 1 1 1 1 1", "+10:3+3:1 1 1 1 1 1", "10:+3+3:1 1 1 1 1 1",
    "10:3+3+:1 1 1 1 1 1", "10:3++3:1 1 1 1 1 1", "10:3 3:1 1 1 1 1 1", "10:3,3:1 1 1 1 1 1", "10:33:1 1 1 1 1 1",
    "10:3+3:1 1 1 1 1", "10:3+3:1 1 1 1 1 1 1", "10:3+3:111111", "10:3+3:1+1+1+1+1+1", "10:3+3:1,1,1,1,1,1",
    "10:3+3: 1 1 1 1 1 1", "10:3+3:1 1 1 1 1 1 ", " 10:3+3:1 1 1 1 1 1", "10 :3+3:1 1 1 1 1 1", "10: 3+3:1 1 1 1 1 1",
    "10:3 + 3:1 1 1 1 1 1", "10:3+3 :1 1 1 1 1 1", "10:3+3:1 1  1 1 1 1", "10:3+3:1 1 1 1 1 1:", ":10:3+3:1 1 1 1 1 1",
    "10:3+3:1 1 1 1 1 1\n", "\n10:3+3:1 1 1 1 1 1", "10:3+3:1\t1 1 1 1 1", "10:3+3:1\n1 1 1 1 1",
    "10:3+3\n:1 1 1 1 1 1", "10\n:3+3:1 1 1 1 1 1", "\t10:3+3:1 1 1 1 1 1", "10:3+3:1 1 1 1 1 1\t", "10;3+3;1 1 1 1 1 1",
    "1:1+1:1 1", "0:1+1:1 1", "17:1+1:1 1", "100:1+1:1 1", "00:1+1:1 1", "02:1+1:1 1", "1_0:1+1:1 1", "1 0:1+1:1 1",
    "a:1+1:1 1", "A:1+1:1 1", "0x10:1+1:1 1", "10.0:1+1:1 1", "1e1:1+1:1 1", "10:0+1:1", "10:1+0:1", "10:0+2:1 1",
    "10:7+1:1 1 1 1 1 1 1 1", "10:1+7:1 1 1 1 1 1 1 1", "10:1:1", "10:2:1 1", "10:6:1 1 1 1 1 1",
    "10:1+1+1+1+1:1 1 1 1 1", "10:10+1:1 1 1 1 1 1 1 1 1 1 1", "10:1+1:10 1", "10:1+1:1 10", "10:1+1:-10 1",
    "10:1+1:1 -10", "10:1+1:1 1_0", "10:1+1:1 1.0", "10:1+1:1 0x1", "10:1+1:1 a", "10:1+1:", "10:1+1: ", "10:1+1:1",
    "(10, [3, 3], [1, 1, 1, 1, 1, 1])", "[10:3+3:1 1 1 1 1 1]", "ok", "none", "frame", "~", "\t", "\n",
    "10:1+1:" + "1 " * 96, "10:1+1:" + "1" * 190, "1" * 190 + ":1+1:1 1", "10:" + "1+" * 90 + "1:1 1", "9" * 200,
    "10:" + "1" * 190 + ":1 1", " " * 200, ":" * 200, "+" * 200, "-" * 200, "10:1+1:" + "-" * 190 + "1",
]
SIGNS = [chr(code) for code in range(ord(" "), ord("~") + 1) if chr(code) != "%"] + ["\t", "\n"]


def frame_by_pattern(text):
    """The frame that the text writes, or None, by one pattern for the whole."""
    found = re.fullmatch(r"(0|[1-9][0-9]*):([1-6](?:\+[1-6]){1,3}):((?:0|-?[1-9])(?: (?:0|-?[1-9]))*)", text, re.ASCII)
    if not found or not 2 <= int(found[1]) <= 16:
        return None
    parts = [int(part) for part in found[2].split("+")]
    weights = [int(weight) for weight in found[3].split(" ")]
    return (int(found[1]), parts, weights) if len(weights) == sum(parts) else None


class WritingTest(unittest.TestCase):
    def test_known(self):
        for text, frame in WRITINGS.items():
            with self.subTest(text=text):
                self.assertEqual(show_frame(frame), text)
                self.assertEqual(read_frame(text), frame)

    def test_there_and_back(self):
        for frame in SMALL_FRAMES + MIDDLE_FRAMES + BIG_FRAMES:
            with self.subTest(frame=frame):
                self.assertEqual(read_frame(show_frame(frame)), frame)
                self.assertEqual(frame_by_pattern(show_frame(frame)), frame)

    def test_every_base_length_and_weight(self):
        for base in range(0, 120):
            self.assert_read_or_refused(f"{base}:1+1:1 1", 2 <= base <= 16)
        for length in range(0, 30):
            weights = " ".join(["1"] * (length + 1))
            self.assert_read_or_refused(f"10:{length}+1:{weights}", 1 <= length <= 6)
            self.assert_read_or_refused(f"10:1+{length}:{weights}", 1 <= length <= 6)
        for weight in range(-120, 120):
            self.assert_read_or_refused(f"10:1+1:{weight} 1", -9 <= weight <= 9)
            self.assert_read_or_refused(f"10:1+1:1 {weight}", -9 <= weight <= 9)
        for many in range(1, 9):
            parts = "+".join(["1"] * many)
            weights = " ".join(["-1"] * many)
            self.assert_read_or_refused(f"10:{parts}:{weights}", 2 <= many <= 4)
        for many in range(1, 40):
            weights = " ".join(["0"] * many)
            self.assert_read_or_refused(f"10:2+3:{weights}", many == 5)

    def assert_read_or_refused(self, text, fine):
        with self.subTest(text=text):
            if fine:
                self.assertEqual(show_frame(read_frame(text)), text)
            else:
                with self.assertRaises(NoText):
                    read_frame(text)

    def test_every_text_one_sign_away(self):
        for text in ["10:2+1:1 -1 0", "2:1+1+1:-9 9 1", "16:1+1:0 0"]:
            near = [text[:place] + text[place + 1:] for place in range(len(text))]
            for sign in SIGNS:
                near += [text[:place] + sign + text[place:] for place in range(len(text) + 1)]
                near += [text[:place] + sign + text[place + 1:] for place in range(len(text))]
            for each in near:
                expected = frame_by_pattern(each)
                if expected is None:
                    with self.subTest(each=each), self.assertRaises(NoText):
                        read_frame(each)
                else:
                    self.assertEqual(read_frame(each), expected)


class RefusalsTest(RefusalCase):
    def test_no_text(self):
        for text in WRONG_TEXTS:
            with self.subTest(text=text):
                self.assertIsNone(frame_by_pattern(text))
                self.assert_refused(NoText, read_frame, text)

    def test_no_text_of_anything(self):
        for thing in NO_WHOLES + [0, 10, -1, 10 ** 25, TICKET, [TICKET_TEXT], (TICKET_TEXT,), {TICKET_TEXT: TICKET},
                                  TICKET_TEXT.encode(), [[[[TICKET_TEXT]]]], {0: {0: {0: [TICKET_TEXT]}}}]:
            with self.subTest(thing=thing):
                self.assert_refused(NoText, read_frame, thing)

    def test_wrong_frames_are_not_read(self):
        for thing in wrong_frames():
            # A few of them are texts, and one of these writes a frame.
            if thing != "10:1+2:1 1 1":
                with self.subTest(thing=thing):
                    self.assert_refused(NoText, read_frame, thing)

    def test_no_frame_is_not_shown(self):
        for thing in wrong_frames() + [TICKET_TEXT]:
            with self.subTest(thing=thing):
                self.assert_refused(NoFrame, show_frame, thing)


class OwnershipTest(unittest.TestCase):
    def test_nothing_handed_in_is_changed(self):
        for frame in SMALL_FRAMES + BIG_FRAMES:
            handed = copied(frame)
            show_frame(handed)
            self.assertEqual(handed, frame)
        for thing in [[TICKET_TEXT], {"a": [1]}, [[1]]]:
            before = copied(thing)
            with self.assertRaises(NoText):
                read_frame(thing)
            with self.assertRaises(NoFrame):
                show_frame(thing)
            self.assertEqual(thing, before)

    def test_read_frames_are_the_askers_own(self):
        for text in ["10:1+1:1 1", TICKET_TEXT]:
            first = read_frame(text)
            second = read_frame(text)
            expected = copied(second)
            self.assertEqual(len({id(each) for each in [first[1], first[2], second[1], second[2]]}), 4)
            for each in first[1:]:
                each.append(5)
                each[0] = 77
            self.assertEqual(second, expected)
            self.assertEqual(read_frame(text), expected)

    def test_told_are_frames_and_texts(self):
        for text, frame in WRITINGS.items():
            told = read_frame(text)
            self.assertIs(is_frame(told), True)
            self.assertEqual([type(each) for each in told], [int, list, list])
            self.assertIs(type(told), tuple)
            self.assertIs(type(show_frame(frame)), str)

    def test_the_same_again(self):
        for text, frame in WRITINGS.items():
            self.assertEqual(read_frame(text), read_frame(text))
            self.assertEqual(show_frame(frame), show_frame(frame))

    def test_a_frame_changed_by_the_asker_is_shown_as_it_is_now(self):
        frame = read_frame("10:1+1:1 1")
        frame[2][1] = -9
        self.assertEqual(show_frame(frame), "10:1+1:1 -9")
        frame[1][1] = 2
        frame[2].append(0)
        self.assertEqual(show_frame(frame), "10:1+2:1 -9 0")


if __name__ == "__main__":
    unittest.main()
