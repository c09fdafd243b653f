"""room, count, board and write: what they show, and what write leaves behind."""

import itertools
import random
import re
import unittest

from tests.helper import (
    BOARD, COUNT, DIFFERENCES, NIGHT, ask, back, begin, due, extra, guest_in, guest_out, inspect, last, letters,
    report, show, shut, whole_house, write)

CODES = ("VD", "VC", "VI", "OD", "OC", "OO")
VD, VC, VI, OD, OC, OO = range(6)

# Calls that bring a room of an inspected house to each code without write.
BY_CALLS = {
    "VD": lambda room: [guest_in(room), guest_out(room)],
    "VC": lambda room: [guest_in(room), guest_out(room), report(room, 0, 1)],
    "VI": lambda room: [],
    "OD": lambda room: [guest_in(room)],
    "OC": lambda room: [guest_in(room), report(room, 1, 1)],
    "OO": lambda room: [shut(room)],
}


def house_by_calls():
    """Room 0 is VD, room 1 VC and so on to room 5, on day 1."""
    early = [call for room in range(6) if CODES[room] != "OC" for call in BY_CALLS[CODES[room]](room)]
    return [begin(6, 30, 20, 5), *early, NIGHT, *BY_CALLS["OC"](4)]


class Shown(unittest.TestCase):
    def test_room_tells_the_code(self):
        for room, minutes in enumerate((30, 5, 0, 20, 0, 0)):
            told = last(*house_by_calls(), show(room))
            self.assertEqual((told[:2], told[6]), ([0, room], minutes))

    def test_room_tells_each_value_at_its_place(self):
        self.assertEqual(
            last(begin(3, 30, 20, 5), write("VD VD VD"), extra(1, 17), due(1, 601), report(1, 0, 2), show(1)),
            [0, VD, 601, 17, 1, 2, 47])
        self.assertEqual(last(begin(), due(2, 1440), extra(2, 120), report(2, 1, 1), show(2)),
                         [0, VI, 1440, 120, 2, 1, 0])

    def test_count(self):
        self.assertEqual(last(*house_by_calls(), COUNT), [0, 1, 6, 1, 1, 1, 1, 1, 1])
        self.assertEqual(last(begin(30), COUNT), [0, 0, 6, 0, 0, 30, 0, 0, 0])
        self.assertEqual(
            last(begin(10), write("OO OO OO OO VD VC VC OD OD OD"), NIGHT, NIGHT, COUNT), [0, 2, 6, 1, 2, 0, 3, 0, 4])

    def test_board(self):
        self.assertEqual(last(*house_by_calls(), BOARD), [0, 17] + letters("VD VC VI OD OC OO"))
        self.assertEqual(last(begin(1), BOARD), [0, 2, 86, 73])
        self.assertEqual(last(begin(2), shut(0), BOARD), [0, 5, 79, 79, 32, 86, 73])
        self.assertEqual(last(begin(30), BOARD), [0, 89] + letters(" ".join(["VI"] * 30)))

    def test_asking_changes_nothing(self):
        calls = [*house_by_calls(), report(0, 1, 0)]
        told = ask(*calls, *whole_house(6), *whole_house(6))[len(calls):]
        self.assertEqual(told[:10], told[10:])


class Written(unittest.TestCase):
    def test_every_code_from_every_code(self):
        states = {"VD": 39, "VC": 5, "VI": 0, "OD": 29, "OC": 0, "OO": 0}
        for before, after in itertools.product(CODES, CODES):
            with self.subTest(before=before, after=after):
                calls = [begin(3, 30, 20, 5), *BY_CALLS[before](1), extra(1, 9)]
                self.assertEqual(last(*calls, write(f"VI {after} OO")), [0])
                told = ask(*calls, write(f"VI {after} OO"), show(1), BOARD, show(0), show(2))[-4:]
                self.assertEqual(told[0], [0, CODES.index(after), 0, 9, 0, 0, states[after]])
                self.assertEqual(told[1], [0, 8] + letters(f"VI {after} OO"))
                self.assertEqual(told[2:], [[0, VI, 0, 0, 0, 0, 0], [0, OO, 0, 0, 0, 0, 0]])

    def test_due_stays_for_a_vacant_room_and_goes_for_another(self):
        for before, after in itertools.product(("VD", "VC", "VI"), CODES):
            with self.subTest(before=before, after=after):
                told = last(begin(1), *BY_CALLS[before](0), due(0, 77), write(after), show(0))
                self.assertEqual(told[2], 77 if after[0] == "V" else 0)

    def test_due_is_gone_for_good(self):
        self.assertEqual(last(begin(1), due(0, 77), write("OO"), write("VD"), show(0))[2], 0)

    def test_nothing_was_seen_and_nothing_came_of_it(self):
        for before, after in itertools.product(("VD", "VC", "VI", "OD", "OC"), CODES):
            for seen, came in itertools.product((0, 1), (1, 2)):
                with self.subTest(before=before, after=after, seen=seen, came=came):
                    told = ask(begin(1), write(before), report(0, seen, came), write(after), show(0), DIFFERENCES)
                    self.assertEqual(told[-2][4:6], [0, 0])
                    self.assertEqual(told[-1], [0, 0])

    def test_the_same_text_again_forgets_too(self):
        self.assertEqual(last(begin(1), report(0, 1, 2), write("VI"), show(0)), [0, VI, 0, 0, 0, 0, 0])

    def test_the_day_stays(self):
        self.assertEqual(last(begin(1), NIGHT, NIGHT, write("OD"), COUNT), [0, 2, 6, 0, 0, 0, 1, 0, 0])

    def test_the_states_behind_the_codes(self):
        # What a code doesn't show, the calls behind it do.
        self.assertEqual(ask(begin(1), write("OO"), back(0), show(0))[-2:], [[0], [0, VD, 0, 0, 0, 0, 30]])
        self.assertEqual(ask(begin(1), write("OO"), guest_out(0), guest_in(0), report(0, 1, 1))[-3:], [[-6]] * 3)
        self.assertEqual(ask(begin(1), shut(0), write("VI"), back(0), guest_in(0))[-2:], [[-6], [0]])
        self.assertEqual(ask(begin(1), write("OC"), guest_in(0), guest_out(0), show(0))[-3:],
                         [[-6], [0], [0, VD, 0, 0, 0, 0, 30]])
        self.assertEqual(ask(begin(1), write("OD"), report(0, 1, 1), show(0))[-1], [0, OC, 0, 0, 2, 1, 0])
        self.assertEqual(ask(begin(1), write("VC"), inspect(0, 1), guest_in(0))[-2:], [[0], [0]])
        self.assertEqual(ask(begin(1), write("VD"), inspect(0, 1), guest_in(0))[-2:], [[-6], [-6]])

    def test_what_the_board_tells_can_be_written(self):
        chance = random.Random(10)
        for turn in range(40):
            rooms = chance.randint(1, 30)
            text = " ".join(chance.choice(CODES) for room in range(rooms))
            told = ask(begin(rooms), write(text), BOARD, COUNT)
            self.assertEqual(told[1:3], [[0], [0, 3 * rooms - 1] + letters(text)])
            self.assertEqual(told[3], [0, 0, 6] + [text.split().count(code) for code in CODES])
            again = ask(begin(rooms), write(told[2][2:]), BOARD)
            self.assertEqual(again[1:], told[1:3])


class NotAsTold(unittest.TestCase):
    def refused(self, rooms, *texts):
        """Each of these texts is refused and leaves a house of so many rooms as it was."""
        before = [begin(rooms), extra(0, 3), due(0, 50), report(0, 1, 2), NIGHT, due(0, 51), report(0, 1, 2)]
        shown = whole_house(rooms)
        for text in texts:
            with self.subTest(rooms=rooms, text=text):
                told = ask(*before, *shown, write(text), *shown)[len(before):]
                self.assertEqual(told[len(shown)], [-5])
                self.assertEqual(told[len(shown) + 1:], told[:len(shown)])

    def test_one_room(self):
        self.refused(1, "", " ", "V", "VD ", " VD", "VDV", "VDVD", "VD VD", "vd", "Vd", "vD", "VO", "DV", "XX", "OI",
                     "IV", "DD", "V D", "VD\n", "VD\t", "\0\0", "  ", "V ", " D", "VD, VC")

    def test_three_rooms(self):
        self.refused(3, "", "VD", "VD VC", "VD VC VI VI", "VD  VC VI", "VD VC  VI", " VD VC VI", "VD VC VI ",
                     "VDVCVI", "VD VCVI", "VD,VC,VI", "VD\tVC\tVI", "VD\nVC VI", "vd VC VI", "VD vc VI", "VD VC vi",
                     "XX VC VI", "VD VC XX", "VD-VC VI", "VDxVC VI", "VD VC V", "VD VC  ", "VD V C VI", "VC VI",
                     "VD VC VI VI VI", "VD VC VI VI ", "V D VC VI")

    def test_thirty_rooms(self):
        text = " ".join(["OD"] * 30)
        self.assertEqual(len(text), 89)
        self.assertEqual(last(begin(30), write(text)), [0])
        for rooms in (29, 28, 1):
            self.assertEqual(last(begin(rooms), write(text)), [-5])
        for other in ("", text[:-1], text[:-3], text + " ", text + " OD", text + " OD OD OD O", "O" * 100):
            self.assertEqual(last(begin(30), write(other)), [-5])

    def test_a_hundred_bytes_are_never_a_text(self):
        for text in ("VD " * 33 + "V", "VD " * 33 + " ", "V" * 100, " " * 100, [0] * 100, [255] * 100):
            self.assertEqual(len(text), 100)
            self.assertEqual(ask(begin(30), write(text), COUNT)[1:], [[-5], [0, 0, 6, 0, 0, 30, 0, 0, 0]])

    def test_every_two_bytes_near_the_capitals(self):
        signs = [*range(64, 92), 32, 0, 255, *letters("vdcio")]
        pairs = list(itertools.product(signs, signs))
        for at in range(0, len(pairs), 59):
            asked = pairs[at:at + 59]
            for pair, answer in zip(asked, ask(begin(1), *[write(pair) for pair in asked])[1:]):
                known = "".join(map(chr, pair)) in CODES
                self.assertEqual(answer, [0] if known else [-5], pair)

    def test_every_byte_at_every_place(self):
        good = letters("VD OC OO")
        written = re.compile("(VD|VC|VI|OD|OC|OO)( (VD|VC|VI|OD|OC|OO)){2}")
        texts = [good[:at] + [byte] + good[at + 1:] for at in range(8) for byte in range(256)]
        texts += [good[:at] + [byte] + good[at:] for at in range(9) for byte in (32, 86, 0)]
        texts += [good[:at] + good[at + 1:] for at in range(8)]
        for at in range(0, len(texts), 59):
            asked = texts[at:at + 59]
            for text, answer in zip(asked, ask(begin(3), *[write(text) for text in asked])[1:]):
                fits = written.fullmatch("".join(map(chr, text)))
                self.assertEqual(answer, [0] if fits else [-5], text)


if __name__ == "__main__":
    unittest.main()
