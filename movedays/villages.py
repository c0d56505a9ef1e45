"""A village: houses and roads, and just one way from each house to each."""

from movedays.errors import NoHouse, NoRoad


def is_house(many, house):
    """Whether the house is one of so many, which are numbered from 0."""
    return 0 <= house < many


def need_houses(village, some):
    """Refuse the first of some that is no house of the village."""
    for house in some:
        if not is_house(village.houses(), house):
            raise NoHouse(house)


def head_of(heads, x):
    """The one house by which all houses are known that the roads ahead join to x."""
    while heads[x] != x:
        # Shortened while gone through, so that there is little to go through next time.
        heads[x] = heads[heads[x]]
        x = heads[x]
    return x


def roads_in_order(roads):
    """The roads, each with the lesser house ahead, in the order of tuples; or NoRoad."""
    many = len(roads) + 1
    heads = list(range(many))
    rows = []
    for number, (x, y) in enumerate(roads):
        if not is_house(many, x) or not is_house(many, y):
            raise NoRoad(number)
        head = head_of(heads, x)
        other = head_of(heads, y)
        # Of one head: one house, or two between which there is a way by the roads ahead.
        if head == other:
            raise NoRoad(number)
        heads[head] = other
        rows.append((min(x, y), max(x, y)))
    return sorted(rows)


def next_doors(roads):
    """The next doors of each house, told by house."""
    doors = [[] for _ in range(len(roads) + 1)]
    for x, y in roads:
        doors[x].append(y)
        doors[y].append(x)
    return doors


def far_from(doors, start):
    """How many roads each house is from the start, told by house."""
    far = [-1] * len(doors)
    far[start] = 0
    rim = [start]
    while rim:
        beyond = []
        for x in rim:
            for y in doors[x]:
                if far[y] < 0:
                    far[y] = far[x] + 1
                    beyond.append(y)
        rim = beyond
    return far


class Village:
    """Houses, numbered from 0, and roads; what it tells never changes."""

    def __init__(self, roads):
        self._roads = roads_in_order(roads)
        self._doors = next_doors(self._roads)
        self._known = {}

    def __eq__(self, other):
        return isinstance(other, Village) and self._roads == other._roads

    def __ne__(self, other):
        return not self == other

    def houses(self):
        """How many houses there are."""
        return len(self._doors)

    def roads(self):
        """The roads, each with the lesser house ahead, in the order of tuples."""
        return list(self._roads)

    def way(self, x, y):
        """The houses from x to y, both of them told, too."""
        many = self.apart(x, y)
        far_x = self._far(x)
        far_y = self._far(y)
        steps = [(far_x[at], at) for at in range(self.houses()) if far_x[at] + far_y[at] == many]
        return [step[1] for step in sorted(steps)]

    def apart(self, x, y):
        """How many roads the way from x to y has."""
        need_houses(self, [x, y])
        return self._far(x)[y]

    def far(self, x):
        """How far each house is from x, told by house; for who asks many of these at once."""
        need_houses(self, [x])
        return list(self._far(x))

    def ball(self, y, r):
        """The houses that are not farther than r from y, rising."""
        need_houses(self, [y])
        far = self._far(y)
        return [x for x in range(self.houses()) if far[x] <= r]

    def middle(self, some):
        """The house from which the greatest way to some is least, or the two next doors."""
        if not some:
            raise NoHouse(None)
        need_houses(self, some)
        reach = [self._reach(x, some) for x in range(self.houses())]
        least = min(reach)
        return tuple([x for x in range(self.houses()) if reach[x] == least])

    def _reach(self, x, some):
        """The greatest of the ways from x to some."""
        far = self._far(x)
        return max([far[y] for y in some])

    def _far(self, x):
        """How far each house is from x, told by house."""
        # Worked out when asked first: of a great village, as of one just read, few houses may be asked.
        if x not in self._known:
            self._known[x] = far_from(self._doors, x)
        return self._known[x]
