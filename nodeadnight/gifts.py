"""Gifts: nights of rooms that are given away, so that what is left has a fill."""

from nodeadnight.fills import Paper, arcs_of, check_both, heights_of, stays_of, supplies_of
from nodeadnight.flows import Flow


class Gifts(Paper):
    """A fill of what is left when some nights are given away, and heights that show that fewer do not do."""

    def __init__(self, stays, nights, heights):
        self.stays = stays
        self.nights = nights
        self.heights = heights

    def __eq__(self, other):
        return (isinstance(other, Gifts) and self.stays == other.stays and self.nights == other.nights
                and self.heights == other.heights)


def fewest_gifts(calendar, book):
    """The Gifts with the fewest nights."""
    check_both(calendar, book)
    many = calendar.after - calendar.first
    # A gift leads from night to night as a stay does, but it costs something; so there is always enough that leads on.
    arcs = arcs_of(calendar, book, 0) + [(at, at + 1, 1) for at in range(many)]
    flow = Flow(supplies_of(calendar.free_rooms), arcs, [0 for _ in range(many + 1)])
    flow.run()
    given = []
    for at, often in enumerate(flow.carried[-many:]):
        given.extend([calendar.first + at for _ in range(often)])
    return Gifts(stays_of(calendar, book, flow), tuple(given), heights_of(calendar, flow.heights))
