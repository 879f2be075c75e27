"""What the calls of one line are made on."""

from openlimits.calendars import Calendar


class Land:
    def __init__(self, ahead, post, text, calendar):
        self.ahead = ahead
        self.post = post
        self.text = text
        self.calendar = calendar


class Limit:
    def __init__(self, text, steps):
        self.text = text
        self.steps = steps


class Act:
    def __init__(self, kind, place, minute):
        self.kind = kind
        self.place = place
        self.minute = minute


class Office:
    def __init__(self):
        self.lands = [Land(0, 0, [], Calendar()) for place in range(4)]
        self.stretches = []
        # By place; a place where none is told is not there.
        self.limits = {}
        self.acts = []
