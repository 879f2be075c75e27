"""Reading a limit's text. What isn't made as told raises NotRight."""

from openlimits.refusals import NotRight
from openlimits.texts import as_text, read_number

WITH_ONE = ("receipt", "open", "back", "month", "going")
WITH_TWO = ("later", "earlier")
UNITS = ("d", "w", "m", "y", "o")
MOST_ADDED = 400
MOST_OPEN_DAYS_ADDED = 20
DEEPEST = 12


# The steps are pairs of a name and a number, in the order in which they are to be made: what stands in a word's
# brackets ahead of the word.
def read_limit(codes):
    reader = LimitReader(as_text(codes))
    deep = reader.read_whole()
    if deep > DEEPEST or reader.at < len(reader.text):
        raise NotRight()
    return reader.steps


class LimitReader:
    def __init__(self, text):
        self.text = text
        self.at = 0
        self.steps = []

    # Answers how deep the limit is. What is nested is read by calls within one another: a text is too short for many.
    def read_whole(self):
        deep = self.read_base()
        while self.takes("+"):
            self.read_addition()
        return deep

    def read_base(self):
        if self.takes("start"):
            self.steps.append(("start", 0))
            return 1
        for word in WITH_ONE:
            if self.takes(word + "("):
                return self.read_inner(word, 1)
        for word in WITH_TWO:
            if self.takes(word + "("):
                return self.read_inner(word, 2)
        raise NotRight()

    def read_inner(self, word, count):
        deepest = self.read_whole()
        for further in range(1, count):
            self.need(",")
            deepest = max(deepest, self.read_whole())
        self.need(")")
        self.steps.append((word, 0))
        return deepest + 1

    def read_addition(self):
        digits = self.take_digits()
        unit = self.text[self.at:self.at + 1]
        if unit not in UNITS:
            raise NotRight()
        self.at += 1
        most = MOST_OPEN_DAYS_ADDED if unit == "o" else MOST_ADDED
        self.steps.append((unit, read_number(digits, 1, most)))

    def take_digits(self):
        begin = self.at
        while self.text[self.at:self.at + 1].isdigit():
            self.at += 1
        return self.text[begin:self.at]

    def takes(self, word):
        if not self.text.startswith(word, self.at):
            return False
        self.at += len(word)
        return True

    def need(self, sign):
        if not self.takes(sign):
            raise NotRight()
