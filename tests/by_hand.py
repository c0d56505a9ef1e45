"""What the tests hold the program against: worked out from the words, without the program."""

from functools import lru_cache
from itertools import product


def apart_by_hand(roads):
    """How far each house is from each, from the roads alone, in any order and either way about."""
    return apart_by_roads(tuple(roads))


@lru_cache(maxsize=None)
def apart_by_roads(roads):
    many = len(roads) + 1
    far = [[0 if x == y else 10 * many for y in range(many)] for x in range(many)]
    for x, y in roads:
        far[x][y] = far[y][x] = 1
    for by in range(many):
        for x in range(many):
            for y in range(many):
                far[x][y] = min(far[x][y], far[x][by] + far[by][y])
    return far


def trees(many):
    """All villages of so many houses, each as its roads."""
    if many == 1:
        return [[]]
    return [tree_of(row, many) for row in product(range(many), repeat=many - 2)]


def tree_of(row, many):
    """The village that Pruefer's row of many - 2 houses stands for."""
    doors = [1 + row.count(x) for x in range(many)]
    roads = []
    for x in row:
        leaf = doors.index(1)
        roads.append((leaf, x))
        doors[leaf] -= 1
        doors[x] -= 1
    roads.append(tuple(x for x in range(many) if doors[x] == 1))
    return roads


def all_tales(roads):
    """Every list of houses in which no two are farther apart than they were."""
    far = apart_by_hand(roads)
    many = len(far)
    tales = [[]]
    for x in range(many):
        tales = [
            tale + [p]
            for tale in tales
            for p in range(many)
            if all(far[tale[z]][p] <= far[z][x] for z in range(x))
        ]
    return tales


def fitting(tales, reports):
    """The tales in which each report is so."""
    return [tale for tale in tales if all(tale[x] == y for x, y in reports)]


def homes_in_some_tale(roads, reports):
    """For each house those where who lived in it lives in some tale that fits, for great villages.

    No two live farther apart than they did just where the ends of each road are one house or
    next doors now: so the roads are gone through, up to house 0 and down again.
    """
    far = apart_by_hand(roads)
    many = len(far)
    told = {}
    for x, y in reports:
        told.setdefault(x, set()).add(y)
    homes = [set.intersection(*[{y} for y in told[x]]) if x in told else set(range(many)) for x in range(many)]
    order = sorted(range(many), key=lambda x: far[0][x])
    roof = {x: next(y for y in range(many) if far[x][y] == 1 and far[0][y] < far[0][x]) for x in order[1:]}
    for x in order[:0:-1]:
        homes[roof[x]] = {p for p in homes[roof[x]] if any(far[p][q] <= 1 for q in homes[x])}
    for x in order[1:]:
        homes[x] = {p for p in homes[x] if any(far[p][q] <= 1 for q in homes[roof[x]])}
    return homes


def row_of(many):
    return [(x, x + 1) for x in range(many - 1)]


def star_of(many):
    return [(0, x) for x in range(1, many)]


def grown(chance, many):
    """Some village of so many houses: numbers, order and ends of the roads thrown together."""
    names = list(range(many))
    chance.shuffle(names)
    roads = [(names[x], names[chance.randrange(max(0, x - 4), x)]) for x in range(1, many)]
    roads = [road if chance.random() < 0.5 else road[::-1] for road in roads]
    chance.shuffle(roads)
    return roads


def some_tale(chance, roads):
    """Some tale: each house behind the first goes next door to, or into, the house of one ahead."""
    far = apart_by_hand(roads)
    many = len(far)
    order = sorted(range(many), key=lambda x: far[0][x])
    tale = [chance.randrange(many)] * many
    for x in order[1:]:
        ahead = next(y for y in range(many) if far[x][y] == 1 and far[0][y] < far[0][x])
        tale[x] = chance.choice([p for p in range(many) if far[p][tale[ahead]] <= 1])
    return tale
