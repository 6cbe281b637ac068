"""Calls written out as the interface tells them, and a plain search over all lines to hold answers against."""

import itertools

from orelines.bench import answers


def bench(nx, ny, price=1, cost=0, dumping=0, widths=(1, 1, 1), kilograms=None, metal=None):
    kilograms = [0] * (nx * ny) if kilograms is None else list(kilograms)
    metal = [0] * (nx * ny) if metal is None else list(metal)
    widths = list(widths)
    lists = [len(widths)] + widths + [len(kilograms)] + kilograms + [len(metal)] + metal
    return [0, nx, ny, price, cost, dumping] + lists


def cell(x, y):
    return [1, x, y]


def change(x, y, kilograms, metal):
    return [2, x, y, kilograms, metal]


def fix(x, y, k):
    return [3, x, y, k]


def widths(ore, waste, necks):
    return [4, ore, waste, necks]


def price(p):
    return [5, p]


def best():
    return [6]


def table(y):
    return [7, y]


def check(lines):
    return [8, len(lines)] + list(lines)


def count():
    return [9]


def free():
    return [10]


def losses(lines):
    return [11, len(lines)] + list(lines)


def pieces(lines):
    return [12, len(lines)] + list(lines)


def outlines(lines):
    return [13, len(lines)] + list(lines)


def fill(numbers):
    return [14, len(numbers)] + list(numbers)


def runs(p):
    return [15, p]


def forced(x, y, k):
    return [16, x, y, k]


def told():
    return [17]


def rows(*texts):
    """Lines drawn as texts, # for ore."""
    return [sum(2 ** x for x, sign in enumerate(text) if sign == "#") for text in texts]


def ask(*calls):
    """The answers to these calls on one new object, each a list without its count."""
    given = answers(list(itertools.chain(*calls)))
    found = []
    at = 0
    while at < len(given):
        found.append(given[at + 1:at + 1 + given[at]])
        at += 1 + given[at]
    assert at == len(given), "the last answer is shorter than its count"
    assert len(found) == len(calls), "not one answer for each call"
    return found


def ask_last(*calls):
    return ask(*calls)[-1]


def ask_each(laid, calls):
    """The answers to these calls, none of which changes anything, in lists no longer than the document allows."""
    found = []
    for at in range(0, len(calls), 20):
        found += ask(*laid, *calls[at:at + 20])[len(laid):]
    return found


class Plain:
    """A bench once more, with everything looked for in the plainest way that the document's words allow."""

    def __init__(self, nx, ny, price, cost, dumping, widths, kilograms, metal, told=None):
        self.nx, self.ny = nx, ny
        self.price, self.cost, self.dumping = price, cost, dumping
        self.widths = tuple(widths)
        self.kilograms, self.metal = list(kilograms), list(metal)
        self.told = [0] * (nx * ny) if told is None else list(told)

    def calls(self):
        """The calls that bring a new object to this bench."""
        laid = bench(self.nx, self.ny, self.price, self.cost, self.dumping, self.widths, self.kilograms, self.metal)
        fixed = [fix(at % self.nx, at // self.nx, k) for at, k in enumerate(self.told) if k]
        return [laid] + fixed

    def row(self, pattern):
        return ["ow"[pattern // 2 ** x % 2 == 0] for x in range(self.nx)]

    def runs(self, pattern):
        """Each run as its kind and the set of its x."""
        found = []
        for kind, members in itertools.groupby(enumerate(self.row(pattern)), key=lambda member: member[1]):
            found.append((kind, {x for x, _ in members}))
        return found

    def row_ok(self, pattern):
        for kind, places in self.runs(pattern):
            least = self.widths[0] if kind == "o" else self.widths[1]
            if len(places) != self.nx and len(places) < least:
                return False
        return True

    def neck_ok(self, pattern, other):
        for kind, places in self.runs(pattern):
            for other_kind, other_places in self.runs(other):
                common = len(places & other_places)
                if kind == other_kind and common not in (0, self.nx) and common < self.widths[2]:
                    return False
        return True

    def told_ok(self, y, pattern):
        for x, kind in enumerate(self.row(pattern)):
            if self.told[y * self.nx + x] == {"o": 2, "w": 1}[kind]:
                return False
        return True

    def ways(self, first=0):
        """All lines of the rows from first on that may be drawn there, in order."""
        rows = []
        for y in range(first, self.ny):
            rows.append([p for p in range(2 ** self.nx) if self.row_ok(p) and self.told_ok(y, p)])
        for lines in itertools.product(*rows):
            if all(self.neck_ok(one, other) for one, other in zip(lines, lines[1:])):
                yield lines

    def worth(self, lines, first=0):
        total = 0
        for y, pattern in enumerate(lines, first):
            for x, kind in enumerate(self.row(pattern)):
                at = y * self.nx + x
                if kind == "o":
                    total += self.metal[at] * self.price - self.kilograms[at] * self.cost
                else:
                    total -= self.kilograms[at] * self.dumping
        return total

    def best(self):
        ranked = sorted((-self.worth(lines), lines) for lines in self.ways())
        return [0, -ranked[0][0]] + list(ranked[0][1]) if ranked else [-4]

    def table(self, y):
        most = {}
        for lines in self.ways(y):
            worth = self.worth(lines, y)
            most[lines[0]] = max(worth, most.get(lines[0], worth))
        return [0] + [number for pair in sorted(most.items()) for number in pair]

    def check(self, lines):
        for y, pattern in enumerate(lines):
            if pattern > 2 ** self.nx - 1:
                return [0, 0, 1, y]
            if not self.row_ok(pattern):
                return [0, 0, 2, y]
            if y and not self.neck_ok(lines[y - 1], pattern):
                return [0, 0, 3, y]
            if not self.told_ok(y, pattern):
                return [0, 0, 4, y]
        return [0, 1, self.worth(lines)]

    def count(self):
        return [0, sum(1 for _ in self.ways())]

    def forced(self, x, y, k):
        now = list(self.told)
        now[y * self.nx + x] = k
        other = Plain(self.nx, self.ny, self.price, self.cost, self.dumping, self.widths, self.kilograms, self.metal, now)
        return other.best()[:2]

    def worths(self, at):
        return self.metal[at] * self.price - self.kilograms[at] * self.cost, -self.kilograms[at] * self.dumping

    def free(self):
        return [0, sum(max(self.worths(at)) for at in range(self.nx * self.ny))]

    def kinds(self, lines):
        return "".join(kind for pattern in lines for kind in self.row(pattern))

    def losses(self, lines):
        answer = [0]
        own = "".join("o" if self.worths(at)[0] > self.worths(at)[1] else "w" for at in range(self.nx * self.ny))
        for ways in (("oo", "ow"), ("wo",), ("ow",)):
            chosen = [at for at, way in enumerate(zip(self.kinds(lines), own)) if "".join(way) in ways]
            answer += [sum(self.kilograms[at] for at in chosen), sum(self.metal[at] for at in chosen)]
        return answer + [self.free()[1] - self.worth(lines)]

    def ore(self, lines):
        return {(at % self.nx, at // self.nx) for at, kind in enumerate(self.kinds(lines)) if kind == "o"}

    def pieces(self, lines):
        """Cells one by one, each joining all pieces that it lies beside into one."""
        found = []
        for x, y in self.ore(lines):
            near = {(x, y), (x - 1, y), (x + 1, y), (x, y - 1), (x, y + 1)}
            touching = [piece for piece in found if piece & near]
            found = [piece for piece in found if not piece & near] + [set().union({(x, y)}, *touching)]
        answer = [0]
        for piece in sorted(found, key=lambda piece: min((y, x) for x, y in piece)):
            first_y, first_x = min((y, x) for x, y in piece)
            places = [y * self.nx + x for x, y in piece]
            answer += [first_x, first_y, len(piece)]
            answer += [sum(self.kilograms[at] for at in places), sum(self.metal[at] for at in places)]
        return answer

    def outlines(self, lines):
        """Sides as where they begin and how they go; a turn to the right takes (a, b) to (-b, a)."""
        ore = self.ore(lines)
        ways = ((1, 0), (0, 1), (-1, 0), (0, -1))
        all_sides = set()
        for x, y in ore:
            corners = ((x, y), (x + 1, y), (x + 1, y + 1), (x, y + 1))
            for corner, (a, b) in zip(corners, ways):
                if (x + b, y - a) not in ore:
                    all_sides.add((corner, (a, b)))
        answer, left = [0], set(all_sides)
        while left:
            first = min(left, key=lambda side: (side[0][1], side[0][0], ways.index(side[1])))
            sides = [first]
            while True:
                (x, y), (a, b) = sides[-1]
                turned = [((x + a, y + b), way) for way in ((-b, a), (a, b), (b, -a))]
                behind = [side for side in turned if side in all_sides][0]
                left.remove(behind)
                if behind == first:
                    break
                sides.append(behind)
            corners = [sides[k][0] for k in range(len(sides)) if sides[k][1] != sides[k - 1][1]]
            answer += [len(corners)] + [place for corner in corners for place in corner]
        return answer

    def fill(self, numbers):
        rounds, rest = [], list(numbers)
        while rest:
            many, rest = rest[0], rest[1:]
            if many < 4 or len(rest) < 2 * many:
                return [-5]
            rounds.append(list(zip(rest[0:2 * many:2], rest[1:2 * many:2])))
            rest = rest[2 * many:]
        flips = []
        for corners in rounds:
            following = corners[1:] + corners[:1]
            differ = "".join("-xyb"[(a != c) + 2 * (b != d)] for (a, b), (c, d) in zip(corners, following))
            if differ not in ("xy" * (len(corners) // 2), "yx" * (len(corners) // 2)):
                return [-6]
            if any(x > self.nx or y > self.ny for x, y in corners):
                return [-6]
            flips += [(a, min(b, d), max(b, d)) for (a, b), (c, d) in zip(corners, following) if a == c]
        answer = [0]
        for y in range(self.ny):
            row = [sum(at <= x and low <= y < high for at, low, high in flips) % 2 for x in range(self.nx)]
            answer.append(sum(2 ** x for x in range(self.nx) if row[x]))
        return answer

    def runs_told(self, pattern):
        answer = [0, 1 if self.row_ok(pattern) else 0]
        for kind, places in self.runs(pattern):
            answer += [1 if kind == "o" else 0, min(places), max(places)]
        return answer

    def told_all(self):
        cells = [amount for pair in zip(self.kilograms, self.metal) for amount in pair]
        rates = [self.price, self.cost, self.dumping]
        return [0, self.nx, self.ny] + rates + list(self.widths) + cells + self.told


def drawn(random, nx, ny, spread=6, told_share=0.2):
    """A bench of small numbers, so that several lines are often worth the same."""
    cells = nx * ny
    return Plain(
        nx, ny, random.randint(0, 3), random.randint(0, 3), random.randint(0, 2),
        [random.randint(1, 4) for _ in range(3)],
        [random.randint(0, spread) for _ in range(cells)],
        [random.randint(0, spread) for _ in range(cells)],
        [random.choice((1, 2)) if random.random() < told_share else 0 for _ in range(cells)],
    )
