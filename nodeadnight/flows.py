"""Flows: what arcs carry so that each place gives away its supply, at the least cost."""


class Flow:
    """Places 0, 1 and so on with their supplies, which are 0 together, and arcs (tail, head, cost) between them.

    An arc can carry any number; a place with a supply below 0 takes. No arc climbs more than it costs by the heights
    that are given first, and so it stays; those that carry something climb just what they cost.
    """

    def __init__(self, supplies, arcs, heights):
        self.left = list(supplies)
        self.arcs = list(arcs)
        self.heights = list(heights)
        self.carried = [0 for _ in self.arcs]
        self.leaving = [[] for _ in self.left]
        self.coming = [[] for _ in self.left]
        for number, (tail, head, _) in enumerate(self.arcs):
            self.leaving[tail].append(number)
            self.coming[head].append(number)

    def run(self):
        """Carries the supplies; tells the places, none of them if all went well, that have too much together."""
        while max(self.left, key=int) > 0:
            costs, links = {}, {}
            goal = self.search(costs, links)
            if goal is None:
                # No arc leads out of these places, and none of them takes anything.
                return [place for place in range(len(self.left)) if place in costs]
            self.climb(costs, costs[goal])
            self.carry(goal, links)
        return []

    def search(self, costs, links):
        """The cheapest place that takes something, on a way from any place that has something left, None if none does.

        It notes the costs of the places that it came to, beyond what is climbed, and the links that led there.
        """
        many = len(self.left)
        ahead = {place: 0 for place in range(many) if self.left[place] > 0}
        while ahead:
            place = min([ahead[each] * many + each for each in ahead], key=int) % many
            costs[place] = ahead.pop(place)
            if self.left[place] < 0:
                return place
            for end, beyond, number in self.links_from(place):
                cost = costs[place] + beyond
                if end not in costs and cost < ahead.get(end, cost + 1):
                    ahead[end] = cost
                    links[end] = (place, number)
        return None

    def links_from(self, place):
        """The places to which an arc leads on, or leads back what it carries; with the cost beyond the climb."""
        found = []
        for number in self.leaving[place]:
            found.append((self.arcs[number][1], self.beyond(number), number))
        for number in self.coming[place]:
            if self.carried[number] > 0:
                found.append((self.arcs[number][0], 0, number))
        return found

    def beyond(self, number):
        """What an arc costs beyond its climb."""
        tail, head, cost = self.arcs[number]
        return cost - self.heights[head] + self.heights[tail]

    def reached(self, place):
        """The places to which steps that cost nothing beyond their climb lead from a place, itself among them."""
        came, at = [place], 0
        while at < len(came):
            for end, beyond, _ in self.links_from(came[at]):
                if beyond == 0 and end not in came:
                    came.append(end)
            at = at + 1
        return came

    def climb(self, costs, most):
        """Lifts the heights, so that the cheapest way costs nothing beyond its climb."""
        for place in range(len(self.heights)):
            self.heights[place] = self.heights[place] + min(int(costs.get(place, most)), most)

    def carry(self, goal, links):
        """Carries as much as can be on the way that leads to a place."""
        way = []
        place = goal
        while place in links:
            before, number = links[place]
            way.append((number, self.arcs[number][1] == place))
            place = before
        back = [self.carried[number] for number, onward in way if not onward]
        many = min([self.left[place], -self.left[goal]] + back, key=int)
        for number, onward in way:
            self.carried[number] = self.carried[number] + (many if onward else -many)
        self.left[place] = self.left[place] - many
        self.left[goal] = self.left[goal] + many
