import random
import re
import unittest

from likehalves.counted import count_even, count_near
from likehalves.desk import Desk
from likehalves.errors import HalfError, NoName, NoNumber, NoPart, NoRow, NoText
from likehalves.frames import how_many, misses_by, part_sums
from likehalves.texts import read_frame, show_frame
from likehalves.which import even_below, even_by, last_even, next_even
from samples import BIG_FRAMES, NO_WHOLES, SMALL_FRAMES, RefusalCase, all_part_sums, copied

TICKET_TEXT = "10:3+3:1 1 1 1 1 1"
ELEVENS_TEXT = "10:1+1:1 1"
UNLIKE_TEXT = "7:1+3+2:1 2 3 -4 -5 6"
NINES_APART_TEXT = "16:6+6+6+6:" + " ".join(["9"] * 6 + ["-9"] * 6 + ["1"] * 12)
THIRTY = "9" * 30
THIRTY_ONE = "9" * 31
# Most of them are but one thing away from a row.
NO_ROWS = [
    "", " ", "  ", "\n", "\t", "ok", "none", "a", "help", "names", "undo", "undo a", "frames a", "Many a", "MANY a",
    "many", "many ", "many  a", " many a", "many a ", "many a  ", "many\ta", "many a\t", "\tmany a", "many a\n",
    "\nmany a", "many\na", "many a b", "many a 1", "many a a", "many A", "many aA", "many a1", "many 1", "many a-b",
    "many a_b", "many a.", "many *", "many abcdefghi", "many abcdefghijklm", "many a,b", "many 'a'", "manya", "many: a",
    "drop", "drop ", "drop a ", "drop  a", "drop a b", "drop a 1", "drop A", "drop abcdefghi", "drop a\n",
    "show", "show ", "show a ", "show  a", "show a b", "show a 1", "show A", "show abcdefghi", "show a\n",
    "frame", "frame ", "frame  ", "frame a", "frame abcdefgh", "frame\ta " + TICKET_TEXT, "frame a\t" + TICKET_TEXT,
    "frame\na " + TICKET_TEXT, "frame a\n" + TICKET_TEXT, "frame  a " + TICKET_TEXT, " frame a " + TICKET_TEXT,
    "frame  " + TICKET_TEXT, "frame " + TICKET_TEXT, "frame A " + TICKET_TEXT, "frame a1 " + TICKET_TEXT,
    "frame abcdefghi " + TICKET_TEXT, "frame abcdefghi ", "frame a\t " + TICKET_TEXT, "frame a\n " + TICKET_TEXT,
    "Frame a " + TICKET_TEXT, "framea " + TICKET_TEXT, "\nframe a " + TICKET_TEXT, "frame 1 x", "frame - x",
    "weigh", "weigh ", "weigh a", "weigh a ", "weigh a 0", "weigh a 0 ", "weigh a 0 1 ", "weigh a 0 1 2",
    "weigh a  0 1", "weigh a 0  1", "weigh  a 0 1", " weigh a 0 1", "weigh A 0 1", "weigh 0 a 1", "weigh a -0 1",
    "weigh a -1 1", "weigh a +1 1", "weigh a 00 1", "weigh a 01 1", "weigh a 100 1", "weigh a 000 1", "weigh a x 1",
    "weigh a 0 -0", "weigh a 0 00", "weigh a 0 01", "weigh a 0 -01", "weigh a 0 -00", "weigh a 0 --1", "weigh a 0 +1",
    "weigh a 0 100", "weigh a 0 -100", "weigh a 0 -", "weigh a 0 - 1", "weigh a 0 1-", "weigh a 0 x", "weigh a 0 1.0",
    "weigh a 0 1\n", "weigh a 0\t1", "weigh a 0 1\t", "weigh a 1_0 1", "weigh a 0 1_0", "weigh a 0x1 1",
    "weigh abcdefghi 0 1", "weigh a  1", "weigh a 0 " + "1" * 180, "weigh a " + "1" * 180 + " 1",
]
NUMBER_WORDS = ["below", "nth", "next", "last", "miss", "sums", "near"]
NO_NUMBERS = [
    "", " ", "-0", "00", "01", "000", "-1", "+1", "--1", "x", "a", "1.0", "1_0", "0x1", "1e1", "1 ", " 1", "1 1", "\t1",
    "1\t", "1\n", "\n1", "1,000", "none", THIRTY_ONE, "1" + "0" * 30, "0" * 30, "9" * 150, "-", "~", "0 ", "0\n",
]


def answered(desk, row):
    """What the desk says, or the class of its refusal."""
    try:
        return desk.say(row)
    except HalfError as refusal:
        return type(refusal)


def desk_with(**texts):
    desk = Desk()
    for name, text in texts.items():
        desk.say(f"frame {name} {text}")
    return desk


def state_of(desk):
    return [(name, desk.say(f"show {name}")) for name in desk.names()]


def number_or_none(number):
    return "none" if number is None else str(number)


def is_row_by_pattern(row):
    name = "[a-z]{1,8}"
    number = "(0|[1-9][0-9]{0,29})"
    patterns = [
        f"frame {name} [^%]*", f"weigh {name} (0|[1-9][0-9]?) (0|-?[1-9][0-9]?)", f"(drop|many|show) {name}",
        f"(below|nth|next|last|miss|sums) {name} {number}", f"near {name} (0|[1-9][0-9]{{0,3}})",
    ]
    return any(re.fullmatch(pattern, row, re.DOTALL) for pattern in patterns)


class AnswersTest(unittest.TestCase):
    def test_known(self):
        desk = Desk()
        self.assertEqual(desk.names(), [])
        self.assertEqual(desk.say("frame ticket " + TICKET_TEXT), "ok")
        self.assertEqual(desk.names(), ["ticket"])
        self.assertEqual(desk.say("show ticket"), TICKET_TEXT)
        self.assertEqual(desk.say("many ticket"), "55252")
        self.assertEqual(desk.say("below ticket 0"), "0")
        self.assertEqual(desk.say("below ticket 1101"), "4")
        self.assertEqual(desk.say("below ticket 1000000"), "55252")
        self.assertEqual(desk.say("nth ticket 0"), "0")
        self.assertEqual(desk.say("nth ticket 3"), "1100")
        self.assertEqual(desk.say("nth ticket 55251"), "999999")
        self.assertEqual(desk.say("nth ticket 55252"), "none")
        self.assertEqual(desk.say("nth ticket " + THIRTY), "none")
        self.assertEqual(desk.say("next ticket 1002"), "1010")
        self.assertEqual(desk.say("next ticket 0"), "0")
        self.assertEqual(desk.say("next ticket 1000000"), "none")
        self.assertEqual(desk.say("last ticket 1001"), "0")
        self.assertEqual(desk.say("last ticket 0"), "none")
        self.assertEqual(desk.say("last ticket 1000000"), "999999")
        self.assertEqual(desk.say("miss ticket 999"), "27")
        self.assertEqual(desk.say("miss ticket 123321"), "0")
        self.assertEqual(desk.say("near ticket 0"), "55252")
        self.assertEqual(desk.say("near ticket 9999"), "1000000")
        self.assertEqual(desk.say("sums ticket 1203"), "1 5")
        self.assertEqual(desk.say("sums ticket 0"), "0 0")

    def test_sums_of_all_parts_with_their_signs(self):
        desk = desk_with(a=UNLIKE_TEXT, b="10:1+1+1+1:1 -2 0 9")
        self.assertEqual(desk.say("sums b 1234"), "1 -4 0 36")
        self.assertEqual(desk.say("miss b 1234"), "40")
        self.assertEqual(desk.say("sums a 0"), "0 0 0")

    def test_weigh(self):
        desk = desk_with(a=ELEVENS_TEXT)
        self.assertEqual(desk.say("weigh a 0 2"), "ok")
        self.assertEqual(desk.say("show a"), "10:1+1:2 1")
        self.assertEqual(desk.say("many a"), "5")
        self.assertEqual(desk.say("nth a 1"), "12")
        self.assertEqual(desk.say("weigh a 0 2"), "ok")
        self.assertEqual(desk.say("weigh a 1 -9"), "ok")
        self.assertEqual(desk.say("show a"), "10:1+1:2 -9")
        self.assertEqual(desk.say("weigh a 1 9"), "ok")
        self.assertEqual(desk.say("weigh a 0 0"), "ok")
        self.assertEqual(desk.say("show a"), "10:1+1:0 9")
        self.assertEqual(desk.say("many a"), "10")

    def test_weigh_places_of_two_figures(self):
        desk = desk_with(a=NINES_APART_TEXT)
        for place in range(24):
            self.assertEqual(desk.say(f"weigh a {place} 0"), "ok")
        self.assertEqual(desk.say("show a"), "16:6+6+6+6:" + " ".join(["0"] * 24))
        self.assertEqual(desk.say("weigh a 23 -7"), "ok")
        self.assertEqual(desk.say("show a"), "16:6+6+6+6:" + " ".join(["0"] * 23 + ["-7"]))

    def test_names(self):
        desk = Desk()
        for name in ["b", "a", "z", "ab", "aa", "abcdefgh", "zzzzzzzz", "frame", "many", "none", "ok", "b"]:
            self.assertEqual(desk.say(f"frame {name} {ELEVENS_TEXT}"), "ok")
        expected = ["a", "aa", "ab", "abcdefgh", "b", "frame", "many", "none", "ok", "z", "zzzzzzzz"]
        self.assertEqual(desk.names(), expected)
        self.assertEqual(desk.say("drop frame"), "ok")
        self.assertEqual(desk.say("drop a"), "ok")
        self.assertEqual(desk.names(), ["aa", "ab", "abcdefgh", "b", "many", "none", "ok", "z", "zzzzzzzz"])
        self.assertEqual(desk.say("many many"), "10")
        self.assertEqual(desk.say("many abcdefgh"), "10")

    def test_every_letter_is_a_name_and_no_other_sign(self):
        desk = Desk()
        for code in range(ord(" "), ord("~") + 1):
            sign = chr(code)
            if "a" <= sign <= "z":
                self.assertEqual(desk.say(f"frame {sign} {ELEVENS_TEXT}"), "ok")
                self.assertEqual(desk.say(f"many {sign}"), "10")
                self.assertEqual(desk.say(f"drop {sign}"), "ok")
            elif sign != "%":
                self.assertIs(answered(desk, f"frame {sign} {ELEVENS_TEXT}"), NoRow)
                self.assertIs(answered(desk, f"frame a{sign}b {ELEVENS_TEXT}"), NoText if sign == " " else NoRow)
        self.assertEqual(desk.names(), [])

    def test_a_frame_in_the_place_of_another(self):
        desk = desk_with(a=ELEVENS_TEXT, b=UNLIKE_TEXT)
        self.assertEqual(desk.say("frame a " + TICKET_TEXT), "ok")
        self.assertEqual(state_of(desk), [("a", TICKET_TEXT), ("b", UNLIKE_TEXT)])
        self.assertEqual(desk.say("many a"), "55252")
        self.assertEqual(desk.say("drop a"), "ok")
        self.assertEqual(state_of(desk), [("b", UNLIKE_TEXT)])
        self.assertEqual(desk.say("frame a " + ELEVENS_TEXT), "ok")
        self.assertEqual(desk.say("many a"), "10")

    def test_twenty_frames(self):
        desk = Desk()
        frames = (SMALL_FRAMES + BIG_FRAMES)[-20:]
        names = ["n" + chr(ord("a") + place) for place in range(20)]
        for name, frame in zip(names, frames):
            self.assertEqual(desk.say(f"frame {name} {show_frame(frame)}"), "ok")
        self.assertEqual(desk.names(), names)
        for name, frame in zip(names, frames):
            self.assert_answers(desk, name, frame)

    def assert_answers(self, desk, name, frame):
        """That the desk answers what the earlier stages tell of the frame."""
        many = how_many(frame)
        self.assertEqual(desk.say(f"show {name}"), show_frame(frame))
        self.assertEqual(desk.say(f"many {name}"), str(count_even(frame)))
        for n in [0, 1, many // 3, many - 1, many]:
            self.assertEqual(desk.say(f"below {name} {n}"), str(even_below(frame, n)))
            self.assertEqual(desk.say(f"next {name} {n}"), number_or_none(next_even(frame, n)))
            self.assertEqual(desk.say(f"last {name} {n}"), number_or_none(last_even(frame, n)))
        for n in [0, 1, many // 3, many - 1]:
            self.assertEqual(desk.say(f"miss {name} {n}"), str(misses_by(frame, n)))
            self.assertEqual(desk.say(f"sums {name} {n}"), " ".join(str(total) for total in part_sums(frame, n)))
        count = count_even(frame)
        for k in [0, 1, count // 2, count - 1, count, many, int(THIRTY)]:
            self.assertEqual(desk.say(f"nth {name} {k}"), number_or_none(even_by(frame, k)))
        for d in [0, 1, 9, 10, 99, 100, 999, 1000, 1620, 9999]:
            self.assertEqual(desk.say(f"near {name} {d}"), str(count_near(frame, d)))

    def test_answers_are_what_the_stages_tell(self):
        for frame in SMALL_FRAMES + BIG_FRAMES:
            self.assert_answers(desk_with(a=show_frame(frame)), "a", frame)

    def test_answers_behind_any_rows(self):
        chance = random.Random(16)
        names = ["a", "b", "abcdefgh"]
        desk = Desk()
        frames = {}
        for step in range(600):
            self.one_row(chance, desk, frames, chance.choice(names))
            self.assertEqual(desk.names(), sorted(frames))
            if step % 40 == 39:
                for name in frames:
                    self.assert_answers(desk, name, frames[name])

    def one_row(self, chance, desk, frames, name):
        choice = chance.randrange(8)
        if choice == 0:
            self.assertEqual(answered(desk, f"drop {name}"), "ok" if name in frames else NoName)
            frames.pop(name, None)
        elif choice == 1:
            frame = copied(chance.choice(SMALL_FRAMES))
            self.assertEqual(answered(desk, f"frame {name} {show_frame(frame)}"), "ok")
            frames[name] = frame
        elif choice == 2:
            self.assertIs(answered(desk, f"frame {name} {ELEVENS_TEXT} 1"), NoText)
        else:
            place = chance.randrange(14)
            weight = chance.randint(-11, 11)
            self.assertEqual(answered(desk, f"weigh {name} {place} {weight}"), self.weighed(frames, name, place, weight))

    def weighed(self, frames, name, place, weight):
        if name not in frames:
            return NoName
        if place >= len(frames[name][2]):
            return NoPart
        if not -9 <= weight <= 9:
            return NoNumber
        frames[name][2][place] = weight
        return "ok"

    def test_all_numbers_of_a_small_frame(self):
        frame = (4, [1, 2], [1, 2, -1])
        desk = desk_with(a=show_frame(frame))
        told = all_part_sums(frame)
        even = [n for n, sums in enumerate(told) if len(set(sums)) == 1]
        self.assertEqual(desk.say("many a"), str(len(even)))
        for n, sums in enumerate(told):
            self.assertEqual(desk.say(f"sums a {n}"), " ".join(map(str, sums)))
            self.assertEqual(desk.say(f"miss a {n}"), str(max(sums) - min(sums)))
        for n in range(len(told) + 1):
            below = [each for each in even if each < n]
            from_here = [each for each in even if each >= n]
            self.assertEqual(desk.say(f"below a {n}"), str(len(below)))
            self.assertEqual(desk.say(f"last a {n}"), str(below[-1]) if below else "none")
            self.assertEqual(desk.say(f"next a {n}"), str(from_here[0]) if from_here else "none")
        for k in range(len(even) + 3):
            self.assertEqual(desk.say(f"nth a {k}"), str(even[k]) if k < len(even) else "none")
        for d in range(20):
            near = [sums for sums in told if max(sums) - min(sums) <= d]
            self.assertEqual(desk.say(f"near a {d}"), str(len(near)))

    def test_the_biggest_frame(self):
        desk = desk_with(a=NINES_APART_TEXT)
        many = 16 ** 24
        self.assertEqual(desk.say("many a"), "1")
        self.assertEqual(desk.say(f"below a {many}"), "1")
        self.assertEqual(desk.say("nth a " + THIRTY), "none")
        self.assertEqual(desk.say("near a 9999"), str(many))
        self.assertEqual(desk.say(f"miss a {many - 1}"), "1620")
        self.assertEqual(desk.say(f"sums a {many - 1}"), "810 -810 90 90")
        self.assertEqual(desk.say("next a 1"), "none")
        self.assertEqual(desk.say(f"last a {many}"), "0")

    def test_answers_are_texts(self):
        desk = desk_with(a=ELEVENS_TEXT)
        for row in ["many a", "below a 5", "nth a 1", "nth a 99", "next a 1", "last a 1", "miss a 12", "near a 1",
                    "sums a 12", "show a", "weigh a 0 1", "frame b " + ELEVENS_TEXT, "drop a"]:
            self.assertIs(type(desk.say(row)), str)


class RefusalsTest(RefusalCase):
    def test_no_row(self):
        desk = desk_with(a=TICKET_TEXT)
        for row in NO_ROWS:
            with self.subTest(row=row):
                self.assertFalse(is_row_by_pattern(row))
                self.assert_refused(NoRow, desk.say, row)
        self.assertEqual(state_of(desk), [("a", TICKET_TEXT)])

    def test_no_row_where_the_number_is_wrong(self):
        desk = desk_with(a=TICKET_TEXT)
        for word in NUMBER_WORDS:
            for number in NO_NUMBERS:
                row = f"{word} a {number}"
                with self.subTest(row=row):
                    self.assert_refused(NoRow, desk.say, row)
            for row in [word, f"{word} ", f"{word} a", f"{word}  a 1", f" {word} a 1", f"{word} a  1", f"{word} a 1 ",
                        f"{word} A 1", f"{word} 1 a", f"{word} 1", f"{word} abcdefghi 1", f"{word}\ta 1",
                        f"{word} a\t1", f"{word} a 1 1", f"{word}  1", f"{word.upper()} a 1", f"{word}s a 1"]:
                with self.subTest(row=row):
                    self.assert_refused(NoRow, desk.say, row)

    def test_no_row_of_anything(self):
        desk = desk_with(a=TICKET_TEXT)
        for thing in NO_WHOLES + [0, 1, -1, 10 ** 25, ["many a"], ("many a",), ["many", "a"], ("many", "a"), b"many a",
                                  {"many": "a"}, {"many a": 1}, [[[["many a"]]]], {0: {0: {0: ["many a"]}}}]:
            with self.subTest(thing=thing):
                self.assert_refused(NoRow, desk.say, thing)
        self.assertEqual(state_of(desk), [("a", TICKET_TEXT)])

    def test_every_row_one_sign_away(self):
        signs = [chr(code) for code in range(ord(" "), ord("~") + 1) if chr(code) != "%"] + ["\t", "\n"]
        for row in ["many a", "drop b", "show abcdefgh", "weigh a 1 -1", "weigh b 10 0", "nth a 10", "near a 1000",
                    "sums b 0", "frame a 2:1+1:0 1", "frame b "]:
            rows = [row[:place] + row[place + 1:] for place in range(len(row))]
            for sign in signs:
                rows += [row[:place] + sign + row[place:] for place in range(len(row) + 1)]
                rows += [row[:place] + sign + row[place + 1:] for place in range(len(row))]
            for each in rows:
                desk = desk_with(a=ELEVENS_TEXT)
                told = answered(desk, each)
                self.assertEqual(told is not NoRow, is_row_by_pattern(each), repr(each))
                if isinstance(told, type):
                    self.assertEqual(state_of(desk), [("a", ELEVENS_TEXT)])

    def test_numbers_of_thirty_and_of_thirty_one_figures(self):
        desk = desk_with(a=TICKET_TEXT)
        for word in ["below", "next", "last", "miss", "sums"]:
            self.assert_refused(NoNumber, desk.say, f"{word} a {THIRTY}")
            self.assert_refused(NoRow, desk.say, f"{word} a {THIRTY_ONE}")
        self.assertEqual(desk.say(f"nth a {THIRTY}"), "none")
        self.assert_refused(NoRow, desk.say, f"nth a {THIRTY_ONE}")
        self.assertEqual(desk.say("near a 9999"), "1000000")
        self.assert_refused(NoRow, desk.say, "near a 10000")
        self.assert_refused(NoPart, desk.say, "weigh a 99 1")
        self.assert_refused(NoRow, desk.say, "weigh a 100 1")
        for weight in ["10", "-10", "99", "-99"]:
            self.assert_refused(NoNumber, desk.say, f"weigh a 0 {weight}")
        for weight in ["100", "-100"]:
            self.assert_refused(NoRow, desk.say, f"weigh a 0 {weight}")
        for word in NUMBER_WORDS:
            self.assertIs(type(desk.say(f"{word} a 0")), str)

    def test_no_name(self):
        desk = desk_with(a=TICKET_TEXT)
        rows = ["many b", "drop b", "show b", "weigh b 0 1", "many aa", "many abcdefgh", "show ab", "drop aaaaaaaa"]
        rows += [f"{word} b {number}" for word in NUMBER_WORDS for number in ["0", "1", "9999"]]
        for row in rows:
            with self.subTest(row=row):
                self.assert_refused(NoName, desk.say, row)
                self.assert_refused(NoName, Desk().say, row)
        self.assertEqual(state_of(desk), [("a", TICKET_TEXT)])
        desk.say("drop a")
        for row in ["many a", "drop a", "show a", "weigh a 0 1", "near a 1"]:
            self.assert_refused(NoName, desk.say, row)

    def test_no_text(self):
        for start in [Desk(), desk_with(a=TICKET_TEXT)]:
            before = state_of(start)
            for text in ["", " ", "  ", " " + ELEVENS_TEXT, ELEVENS_TEXT + " ", ELEVENS_TEXT + "\n", "\t" + ELEVENS_TEXT,
                         "\n", "\t", "10:1+1:1", "10:1+1:1 1 1", "10:1+1:1  1", "10:1+1:01 1", "10:1+1:-0 1", "a", "1",
                         "10:1+1:10 1", "17:1+1:1 1", "frame a " + ELEVENS_TEXT, "a " + ELEVENS_TEXT, "10:1+1:1\t1"]:
                with self.subTest(text=text):
                    self.assert_refused(NoText, start.say, "frame a " + text)
                    self.assert_refused(NoText, start.say, "frame b " + text)
            self.assertEqual(state_of(start), before)

    def test_no_part_and_no_number(self):
        desk = desk_with(a=TICKET_TEXT)
        for row in ["weigh a 6 1", "weigh a 7 1", "weigh a 10 1", "weigh a 99 -9"]:
            self.assert_refused(NoPart, desk.say, row)
        for row in ["weigh a 0 10", "weigh a 5 -10", "weigh a 3 99", "weigh a 3 -99", "below a 1000001",
                    "next a 1000001", "last a 1000001", "miss a 1000000", "sums a 1000000", "miss a 1000001"]:
            self.assert_refused(NoNumber, desk.say, row)
        self.assertEqual(state_of(desk), [("a", TICKET_TEXT)])

    def test_the_order_of_refusals(self):
        desk = desk_with(a=ELEVENS_TEXT)
        for row in ["weigh b 99 100", "weigh b 100 99", "weigh b 0 -0", "below b " + THIRTY_ONE, "near b 10000",
                    "many b ", "frame B ", "frame B x", "frame abcdefghi x", "weigh a 99 100", "weigh a 100 10"]:
            with self.subTest(row=row):
                self.assert_refused(NoRow, desk.say, row)
        for row in ["weigh b 99 99", "weigh b 0 99", "weigh b 99 0", "below b " + THIRTY, "miss b " + THIRTY,
                    "sums b 100", "next b 101", "last b 101"]:
            with self.subTest(row=row):
                self.assert_refused(NoName, desk.say, row)
        self.assert_refused(NoText, desk.say, "frame b ")
        self.assert_refused(NoText, desk.say, "frame b x")
        self.assert_refused(NoPart, desk.say, "weigh a 99 99")
        self.assert_refused(NoPart, desk.say, "weigh a 2 10")
        self.assert_refused(NoNumber, desk.say, "weigh a 1 10")
        self.assertEqual(state_of(desk), [("a", ELEVENS_TEXT)])


class OwnershipTest(RefusalCase):
    def test_told_names_are_the_askers_own(self):
        desk = desk_with(b=ELEVENS_TEXT, a=TICKET_TEXT)
        first = desk.names()
        second = desk.names()
        self.assertIs(type(first), list)
        self.assertIsNot(first, second)
        first.append("c")
        first[0] = "x"
        self.assertEqual(second, ["a", "b"])
        second.clear()
        self.assertEqual(desk.names(), ["a", "b"])
        nothing = Desk()
        nothing.names().append("a")
        self.assertEqual(nothing.names(), [])
        self.assert_refused(NoName, nothing.say, "many a")

    def test_names_told_earlier_stay_as_they_were(self):
        desk = desk_with(a=ELEVENS_TEXT)
        earlier = desk.names()
        desk.say("frame b " + ELEVENS_TEXT)
        desk.say("drop a")
        self.assertEqual(earlier, ["a"])
        self.assertEqual(desk.names(), ["b"])

    def test_two_desks_are_apart(self):
        one = Desk()
        other = Desk()
        one.say("frame a " + ELEVENS_TEXT)
        self.assertEqual(other.names(), [])
        self.assert_refused(NoName, other.say, "many a")
        other.say("frame a " + ELEVENS_TEXT)
        one.say("weigh a 0 2")
        self.assertEqual(one.say("show a"), "10:1+1:2 1")
        self.assertEqual(other.say("show a"), ELEVENS_TEXT)
        other.say("drop a")
        self.assertEqual(one.names(), ["a"])

    def test_frames_of_one_writing_are_apart(self):
        desk = desk_with(a=ELEVENS_TEXT, b=ELEVENS_TEXT)
        desk.say("weigh a 1 -3")
        self.assertEqual(state_of(desk), [("a", "10:1+1:1 -3"), ("b", ELEVENS_TEXT)])
        desk.say("frame a " + ELEVENS_TEXT)
        self.assertEqual(desk.say("show a"), ELEVENS_TEXT)
        self.assertEqual(read_frame(desk.say("show a")), (10, [1, 1], [1, 1]))

    def test_wrong_things_handed_in_are_not_changed(self):
        desk = desk_with(a=ELEVENS_TEXT)
        for thing in [["many", "a"], {"many": ["a"]}, [["drop a"]]]:
            before = copied(thing)
            self.assert_refused(NoRow, desk.say, thing)
            self.assertEqual(thing, before)

    def test_the_same_again(self):
        desk = desk_with(a=TICKET_TEXT, b=UNLIKE_TEXT)
        for name in ["a", "b", "c"]:
            for row in ["many", "show"] + [f"{word} @ 7" for word in NUMBER_WORDS]:
                asked = row.replace("@", name) if "@" in row else f"{row} {name}"
                self.assertEqual(answered(desk, asked), answered(desk, asked))
        self.assertEqual(desk.names(), desk.names())


if __name__ == "__main__":
    unittest.main()
