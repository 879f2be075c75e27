"""Days and limits: calendars of lands, when limits end there, and which acts were in time."""
