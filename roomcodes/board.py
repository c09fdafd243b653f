"""The board: all rooms' codes as a text, and a text's codes given to the rooms."""

from roomcodes.rooms import CLEANED, DIRTY, INSPECTED, OC, OD, OO, VC, VD, VI
from roomcodes.rooms import code_of, make_vacated

BLANK = 32

# Each stands at its code's own place.
CODE_NAMES = ("VD", "VC", "VI", "OD", "OC", "OO")


def letters_of(name):
    return [ord(letter) for letter in name]


def text_of(rooms):
    text = []
    for room in rooms:
        if len(text) > 0:
            text.append(BLANK)
        text.extend(letters_of(CODE_NAMES[code_of(room)]))
    return text


def code_named(letters):
    for code, name in enumerate(CODE_NAMES):
        if letters == letters_of(name):
            return code
    return None


def codes_in(text):
    """The codes that a text has, with one blank between two; None if it isn't such a text."""
    codes = []
    # One more than the length, so that a blank at the end is looked at as a code that is missing.
    for at in range(0, len(text) + 1, 3):
        code = code_named(text[at:at + 2])
        if code is None or text[at + 2:at + 3] not in ([], [BLANK]):
            return None
        codes.append(code)
    return codes


def state_written(code):
    if code == VI:
        return INSPECTED
    return CLEANED if code in (VC, OC) else DIRTY


def give_code(room, code):
    due = room.due if code in (VD, VC, VI) else 0
    make_vacated(room)
    room.due = due
    room.taken = code in (OD, OC)
    room.shut = code == OO
    room.state = state_written(code)
