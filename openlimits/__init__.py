"""Days and limits: calendars of lands, and the days on which their offices are open."""
