"""Worlds of sets: what follows of sayings, what is sure by them, which of them quarrel.

Each ordinal goes by itself, by the lot of names whose sets hold it. A saying bars lots at all
ordinals, or it wants a lot at one ordinal at least, as <> does. So a world is found by going over
the ordinals, with the wants that are met so far, as bits.
"""

from begunended.errors import BadName, BadSaying, BadSayings, NoWorld, Wide
from begunended.setreading import HIGHEST, MOST_NAMES, names_of_saying, ordinals_of, read_saying, read_world
from begunended.settexts import does_hold, lots_of

MOST_SAYINGS = 6


class Worlds:
    """The worlds of some names that sayings ask for.

    Lots are, for each ordinal, the dict of the wants that a lot meets, and the least such lot; those
    that are barred are left out. All_wants has a bit for each want.
    """

    def __init__(self, names, rows):
        """Rows are pairs of a saying and whether it, or its contrary, is asked for."""
        self.names = names
        self.all_lots = 1 << len(names)
        self.barred = [0 for _ in range(HIGHEST + 1)]
        self.wants = []
        for saying, is_kept in rows:
            self.ask(saying, is_kept)
        self.all_wants = (1 << len(self.wants)) - 1
        self.known = {}
        self.lots = [self.lots_at(ordinal) for ordinal in range(HIGHEST + 1)]

    def ask(self, saying, is_kept):
        """Asks for a saying, or for its contrary."""
        wrong = wrong_lots(saying, self.names)
        is_everywhere = (saying.relation != "<>") == is_kept
        if is_everywhere:
            self.barred = [old | new for old, new in zip(self.barred, wrong)]
        else:
            self.wants.append(wrong)

    def lots_at(self, ordinal):
        """The dict of wants that are met at an ordinal, and the least lot that meets them."""
        wanted = [want[ordinal] for want in self.wants]
        key = (self.barred[ordinal], *wanted)
        if key not in self.known:
            found = {}
            for lot in range(self.all_lots):
                if not self.barred[ordinal] >> lot & 1:
                    met = sum([1 << at for at, want in enumerate(wanted) if want >> lot & 1])
                    found.setdefault(met, lot)
            self.known[key] = found
        return self.known[key]

    def walks(self, ordinals):
        """Ahead of each of these ordinals, and behind all: the wants that can be met, each with (want ahead, lot)."""
        found = [{0: None}]
        for ordinal in ordinals:
            reached = {}
            for ahead in found[-1]:
                for met, lot in self.lots[ordinal].items():
                    reached.setdefault(ahead | met, (ahead, lot))
            found.append(reached)
        return found

    def world(self):
        """A world in which all that is asked for holds, None if there is none."""
        walks = self.walks(list(range(HIGHEST + 1)))
        if self.all_wants not in walks[-1]:
            return None
        held = {name: 0 for name in self.names}
        wants = self.all_wants
        for ordinal in range(HIGHEST, -1, -1):
            wants, lot = walks[ordinal + 1][wants]
            for at, name in enumerate(self.names):
                held[name] = held[name] | (lot >> at & 1) << ordinal
        return tuple([(name, ordinals_of(held[name])) for name in self.names])

    def can_be(self):
        """For each ordinal the list of all lots that names can have there in such worlds."""
        ahead = self.walks(list(range(HIGHEST + 1)))
        behind = self.walks(list(range(HIGHEST, -1, -1)))
        found = []
        for ordinal in range(HIGHEST + 1):
            rest = {}
            for one in ahead[ordinal]:
                for other in behind[HIGHEST - ordinal]:
                    rest[one | other] = True
            mets = [met for met in self.lots[ordinal] if self.is_met(met, rest)]
            found.append([lot for lot in range(self.all_lots) if self.met_by(lot, ordinal) in mets])
        return found

    def is_met(self, met, rest):
        return any([met | other == self.all_wants for other in rest])

    def met_by(self, lot, ordinal):
        """The wants that a lot meets at an ordinal; -1 if it is barred."""
        if self.barred[ordinal] >> lot & 1:
            return -1
        return sum([1 << at for at, want in enumerate(self.wants) if want[ordinal] >> lot & 1])


def wrong_lots(saying, names):
    """For each ordinal the lots, as bits, at which a saying is wrong; of <>, those at which it is right."""
    right = lots_of(saying.right, names)
    if saying.relation == "in":
        most = (1 << (1 << len(names))) - 1
        return [most ^ bits if at == saying.number else 0 for at, bits in enumerate(right)]
    left = lots_of(saying.left, names)
    if saying.relation == "<=":
        return [one & (one ^ other) for one, other in zip(left, right)]
    if saying.relation == ">=":
        return [other & (one ^ other) for one, other in zip(left, right)]
    return [one ^ other for one, other in zip(left, right)]


def follows(sayings, saying):
    """Whether a saying holds where all of sayings do; otherwise a world in which it does not."""
    rows, last, names = both_read(sayings, saying)
    world = Worlds(names, [*kept(rows), (last, False)]).world()
    return ("follows",) if world is None else ("world", world)


def shows_follows(sayings, saying, value):
    """Whether a value is what follows may tell."""
    rows, last, names = both_read(sayings, saying)
    if not isinstance(value, tuple) or not value or not isinstance(value[0], str):
        return False
    if value[0] == "follows":
        return len(value) == 1 and Worlds(names, [*kept(rows), (last, False)]).world() is None
    if value[0] != "world" or len(value) != 2:
        return False
    sets = read_world(value[1])
    if sets is None or list(sets) != names:
        return False
    return all([does_hold(row, sets) for row in rows]) and not does_hold(last, sets)


def sure(sayings, name):
    """The ordinals that a name holds, and those that it does not, in all worlds that keep sayings."""
    rows = sayings_wanted(sayings)
    names = names_of_all(rows)
    if not isinstance(name, str) or name not in names:
        raise BadName(name)
    want_few(names)
    worlds = Worlds(names, kept(rows))
    if worlds.world() is None:
        raise NoWorld(sayings)
    at = names.index(name)
    within = []
    without = []
    for ordinal, lots in enumerate(worlds.can_be()):
        held = [lot for lot in lots if lot >> at & 1]
        if len(held) == len(lots):
            within.append(ordinal)
        if not held:
            without.append(ordinal)
    return tuple(within), tuple(without)


def least_quarrels(sayings):
    """All least lots of sayings that no world keeps, as ascending tuples of numbers."""
    rows = sayings_wanted(sayings)
    names = names_of_all(rows)
    want_few(names)
    found = []
    for numbers in lots_by_size(len(rows)):
        if not [lot for lot in found if all([number in numbers for number in lot])]:
            if Worlds(names, kept([rows[number] for number in numbers])).world() is None:
                found.append(numbers)
    return tuple(found)


def lots_by_size(many):
    """All ascending tuples of numbers below many, by how many they are, then as tuples."""
    found = []
    for bits in range(1 << many):
        numbers = tuple([number for number in range(many) if bits >> number & 1])
        found.append((len(numbers), numbers))
    return [numbers for _, numbers in sorted(found)]


def kept(rows):
    return [(row, True) for row in rows]


def both_read(sayings, saying):
    """Sayings and one more, read, and all of their names."""
    rows = sayings_wanted(sayings)
    last = read_saying(saying)
    if last is None:
        raise BadSaying(saying)
    names = names_of_all([*rows, last])
    want_few(names)
    return rows, last, names


def sayings_wanted(sayings):
    """The sayings of a tuple, read: BadSayings for what is none."""
    if not isinstance(sayings, tuple) or len(sayings) > MOST_SAYINGS:
        raise BadSayings(sayings)
    rows = [read_saying(saying) for saying in sayings]
    if None in rows:
        raise BadSayings(sayings)
    return rows


def names_of_all(rows):
    """The ascending list of the names of sayings."""
    names = {name: True for row in rows for name in names_of_saying(row)}
    return sorted(list(names))


def want_few(names):
    if len(names) > MOST_NAMES:
        raise Wide(MOST_NAMES)
