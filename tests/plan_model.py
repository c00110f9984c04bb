"""Roads, plans and runs as the document words them, reckoned with all machines in step or by names of letters alone."""

import brute
from dealtarrays.exchanges import numbers_sent
from dealtarrays.grids import dealings
from dealtarrays.makes import made_dealing, make_piece, operand_dealing
from dealtarrays.pieces import cut_array
from dealtarrays.programs import operands


def key(dealing):
    return dealing.cuts, dealing.parts


def costs_between(sides, grid):
    found = dealings(sides, grid)
    return found, {(key(a), key(b)): numbers_sent(sides, a, b, grid) for a in found for b in found}


def least_roads(sides, dealing, grid, known=None):
    """For each dealing (cost, exchanges, keys) of the first among the least roads, tried by their lengths."""
    found, costs = known or costs_between(sides, grid)
    layer = {key(dealing): (0, 0, (key(dealing),))}
    best = dict(layer)
    for many in range(1, len(found)):
        following = {}
        for to in map(key, found):
            following[to] = min((cost + costs[at, to], many, (*row, to)) for at, (cost, _, row) in layer.items())
        layer = following
        for to, row in layer.items():
            best[to] = min(best.get(to, row), row)
    return best


class Lockstep:
    """A plan's rounds, and on arrays the letters of each round and the pieces wanted, all machines going in step."""

    def __init__(self, plan, arrays, known=None):
        self.plan, self.known = plan, known if known is not None else {}
        self.grid = plan["grid"]
        self.rounds, self.numbers, self.letters, self.sizes = [], [], [], []
        program = plan["program"]
        self.pieces, self.had = {}, {}
        for (name, _), array, dealing in zip(program.inputs, arrays, plan["given"]):
            self.had[name] = dealing
            self.pieces[name] = cut_array(array, dealing, self.grid)
        for number, step in enumerate(program.steps):
            dealing = plan["dealt"][number]
            used = [self.led(name, operand_dealing(program, number, dealing, at))
                    for at, name in enumerate(operands(step))]
            self.rounds.append(("make", step[0]))
            self.numbers.append(0)
            self.letters.append({})
            self.had[step[0]] = made_dealing(program, number, dealing)
            self.pieces[step[0]] = tuple(
                make_piece(program, number, dealing, self.grid, machine, [pieces[machine] for pieces in used])
                for machine in range(self.grid.many))
        self.wanted = {name: self.led(name, dealing) for name, dealing in plan["wanted"]}
        self.cost = sum(self.numbers)

    def road(self, sides, dealing, other):
        if key(dealing) == key(other):
            return [dealing]
        if not self.plan["by_roads"]:
            return [dealing, other]
        if sides not in self.known:
            self.known[sides] = costs_between(sides, self.grid)
        found = self.known[sides]
        by_key = {key(one): one for one in found[0]}
        return [by_key[at] for at in least_roads(sides, dealing, self.grid, found)[key(other)][2]]

    def led(self, name, other):
        """The pieces at the end of the road; its exchanges are written down."""
        sides = self.plan["program"].sides_of(name)
        pieces = self.pieces[name]
        road = self.road(sides, self.had[name], other)
        for before, after in zip(road, road[1:]):
            wants = brute.wants_exchanged(sides, before, after, self.grid)
            self.rounds.append(("send", name, before, after))
            self.letters.append({
                (source, to): tuple(self.cell(pieces[source], place) for place, _ in asked)
                for source, to, asked in brute.letters(wants)})
            self.numbers.append(sum(len(numbers) for numbers in self.letters[-1].values()))
            pieces = brute.pieces_after(pieces, sides, after, self.grid, wants)
        return pieces

    def cell(self, piece, place):
        rows, cells = piece
        return cells[brute.all_places(rows).index(place)]


class RunModel:
    """A run that knows of letters only who says them to whom in which round."""

    def __init__(self, lockstep):
        self.letters_of_round = lockstep.letters
        self.many = lockstep.grid.many
        self.at = [0] * self.many
        self.told = [[] for _ in range(self.many)]
        self.got = [set() for _ in range(self.many)]
        self.kept = [(0, [], set()) for _ in range(self.many)]
        self.way, self.ever = [], set()
        for machine in range(self.many):
            self.go_on(machine)

    def go_on(self, machine):
        while self.at[machine] < len(self.letters_of_round):
            at = self.at[machine]
            letters = self.letters_of_round[at]
            for source, to in sorted(letters):
                if source == machine and (at, source, to) not in self.told[machine]:
                    self.told[machine].append((at, source, to))
                    self.ever.add((at, source, to))
            if any(to == machine and (at, source, to) not in self.got[machine] for source, to in letters):
                return
            self.at[machine] += 1

    def post(self, machine):
        self.way = self.way + self.told[machine]

    def deliver(self, number):
        letter = self.way[number]
        self.way = self.way[:number] + self.way[number + 1:]
        to = letter[2]
        if letter in self.got[to]:
            return False
        self.got[to].add(letter)
        self.go_on(to)
        return True

    def double(self, number):
        self.way = self.way + [self.way[number]]

    def lose(self, number):
        self.way = self.way[:number] + self.way[number + 1:]

    def keep(self, machine):
        self.kept[machine] = (self.at[machine], list(self.told[machine]), set(self.got[machine]))

    def fall(self, machine):
        at, told, got = self.kept[machine]
        self.at[machine], self.told[machine], self.got[machine] = at, list(told), set(got)
        self.go_on(machine)

    def is_done(self):
        return all(at == len(self.letters_of_round) for at in self.at)

    def said(self):
        return sum(len(self.letters_of_round[at][source, to]) for at, source, to in self.ever)


def any_deed(dice, many, way):
    """A deed, and the number of a machine or a letter; fewer letters are said than got, so that the way stays short."""
    deeds = ["post", "keep", "fall"]
    if way:
        deeds = ["post", "post", "keep", "fall", "lose", "double"] + ["deliver"] * 24
    deed = dice.one_of(deeds)
    return deed, dice.below(way if deed in ("deliver", "double", "lose") else many)
