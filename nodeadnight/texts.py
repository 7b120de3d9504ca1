"""Writes the texts of calendars."""

from nodeadnight.fills import check_calendar


def calendar_text(calendar):
    """The text of a calendar, a line for itself and one for each guest, names ascending."""
    check_calendar(calendar)
    lines = [f"calendar {calendar.rooms} {calendar.first} {calendar.after}"]
    lines.extend([f"guest {name} {stay}" for name, stay in calendar.guests()])
    return "\n".join(lines)
