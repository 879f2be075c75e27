"""What reading a calendar's text and reading a limit's text share. What isn't made as told raises NotRight."""

from openlimits.refusals import NotRight

# All signs that a right text of either sort may have.
SIGNS = " (),+-/0123456789;abcdefghijklmnopqrstuvwxyz"


def as_text(codes):
    known = {}
    for sign in SIGNS:
        known[ord(sign)] = sign
    for code in codes:
        if code not in known:
            raise NotRight()
    return "".join([known[code] for code in codes])


def read_number(word, low, high):
    if not word.isdigit() or word.startswith("0"):
        raise NotRight()
    number = int(word)
    if number < low or number > high:
        raise NotRight()
    return number
