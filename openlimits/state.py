"""What the calls of one line are made on."""

from openlimits.calendars import Calendar


class Land:
    def __init__(self, ahead, post, text, calendar):
        self.ahead = ahead
        self.post = post
        self.text = text
        self.calendar = calendar


class Office:
    def __init__(self):
        self.lands = [Land(0, 0, [], Calendar()) for place in range(4)]
        self.stretches = []
