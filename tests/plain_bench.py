"""A second, plain bench, kept beside the one that is tested; sections 14 and 15 worked out another way."""

import re

from tests.samples import fits_plainly, flippable, flipped_plainly
from threeroadcars.errors import (
    BadEnd, BadLoad, BadName, BadNames, BadRoad, BadRoads, BadRoom, BadWay, Borne, Bridge, Full, Lone, NoInner, NoRoad,
    NothingToRedo, NothingToUndo, Tight, Unequal,
)
from threeroadcars.webs import Web


def web_with(lines):
    return Web('\n'.join(['web', *['meet ' + ' '.join(words) for words in lines]]))


def standings_of(lines, road):
    """The places (line, word) at which a road stands, in sequence."""
    return [(at, word) for at, words in enumerate(lines) for word in range(3) if words[word] == road]


def hang_together(lines):
    """The numbers of the lines, in parts that hang together."""
    parts = [{at} for at in range(len(lines))]
    for one in range(len(lines)):
        for other in range(one):
            if set(lines[one]) & set(lines[other]):
                sides = [part for part in parts if one in part or other in part]
                parts = [part for part in parts if part not in sides] + [set().union(*sides)]
    return parts


def cut_plainly(web, road, first, second):
    lines = [list(words) for words in web.junctions]
    places = standings_of(lines, road)
    for (at, word), name in zip(places, (first, second)):
        lines[at][word] = name
    parts = hang_together(lines)
    if len(parts) == 1:
        return (web_with(lines),)
    parts.sort(key=lambda part: places[0][0] not in part)
    return tuple(web_with([lines[at] for at in sorted(part)]) for part in parts)


def joined_plainly(web, one, other, road):
    lines = [list(words) for words in web.junctions]
    for name in (one, other):
        for at, word in standings_of([list(words) for words in web.junctions], name):
            lines[at][word] = road
    return web_with(lines)


def hung_plainly(web, road, half, end):
    lines = [list(words) for words in web.junctions]
    for at, word in standings_of(lines, road)[1:]:
        lines[at][word] = half
    return web_with([*lines, [road, half, end]])


def taken_plainly(web, end):
    (here, place), = standings_of(web.junctions, end)
    others = [word for at, word in enumerate(web.junctions[here]) if at != place]
    name = sorted(others, key=lambda word: (word in web.inner, word))[0]
    return web_with([[name if word in others else word for word in words]
                     for at, words in enumerate(web.junctions) if at != here])


def numbers_by_trying(web, room, borne, road):
    """All numbers that a road can bear beside the others, ascending."""
    told = []
    for number in range(room + 1):
        if fits_plainly(web, room, tuple({**borne, road: number}[name] for name in web.roads)):
            told.append(number)
    return told


def is_int(value):
    return type(value) is int


def is_name_plainly(value):
    return type(value) is str and re.fullmatch('[a-z]{1,6}', value) is not None


class PlainBench:
    """A web, a room and what each road bears; a deed returns None, or (error, value) if it is refused."""

    def __init__(self, text, room):
        self.start = f'bench {room}\n{text}'
        self.web, self.room = Web(text), room
        self.borne = dict.fromkeys(self.web.roads, 0)
        self.done, self.undone = [], []

    def load(self):
        return tuple(self.borne[road] for road in self.web.roads)

    def ends(self):
        return tuple(self.borne[road] for road in self.web.ends)

    def journal(self):
        return '\n'.join([self.start, *[line for line, _, _ in self.done]])

    def all_of_it(self):
        return (self.start, self.web, self.room, dict(self.borne), list(self.done), list(self.undone))

    def be(self, all_of_it):
        self.start, self.web, self.room, self.borne, self.done, self.undone = all_of_it

    def do(self, word, *given):
        refused, changed = getattr(self, word)(*given)
        if refused is not None:
            return refused
        before = (self.web, self.room, self.borne)
        self.web, self.room, self.borne = {**dict(zip('wrb', before)), **changed}.values()
        parts = [part for each in given for part in (each if isinstance(each, tuple) else (each,))]
        self.done.append((' '.join(map(str, [word, *parts])), before, (self.web, self.room, self.borne)))
        self.undone = []
        return None

    def undo(self):
        if not self.done:
            return (NothingToUndo, None)
        self.undone.append(self.done.pop())
        self.web, self.room, self.borne = self.undone[-1][1]
        return None

    def redo(self):
        if not self.undone:
            return (NothingToRedo, None)
        self.done.append(self.undone.pop())
        self.web, self.room, self.borne = self.done[-1][2]
        return None

    def flip(self, road, way):
        if road not in flippable(self.web):
            return (BadRoad, road), None
        if not is_int(way) or way not in (1, 2):
            return (BadWay, way), None
        there = Web('\n'.join(['web', *['meet ' + line for line in flipped_plainly(self.web, road, way)]]))
        place = numbers_by_trying(self.web, self.room, self.borne, road).index(self.borne[road])
        return None, {'w': there, 'b': {**self.borne, road: numbers_by_trying(there, self.room, self.borne, road)[place]}}

    def put(self, load):
        right = type(load) is tuple and len(load) == len(self.web.roads) and all(map(is_int, load))
        if not right or not fits_plainly(self.web, self.room, load):
            return (BadLoad, load), None
        return None, {'b': dict(zip(self.web.roads, load))}

    def widen(self, room):
        if not is_int(room) or not 0 <= room <= 10 ** 12:
            return (BadRoom, room), None
        needed = max(sum(self.borne[word] for word in words) for words in self.web.junctions) // 2
        return ((Tight, needed), None) if needed > room else (None, {'r': room})

    def switch(self, roads):
        right = type(roads) is tuple and all(type(road) is str for road in roads)
        right = right and list(roads) == sorted(set(roads)) and set(roads) <= set(self.web.roads)
        if not right or any(sum(word in roads for word in words) % 2 for words in self.web.junctions):
            return (BadRoads, roads), None
        return None, {'b': {road: self.room - number if road in roads else number
                            for road, number in self.borne.items()}}

    def with_names(self, web, told):
        return None, {'w': web, 'b': {road: told[road] for road in web.roads}}

    def are_free(self, names, more=()):
        return (all(map(is_name_plainly, names)) and len(set(names)) == len(names)
                and not set(names) & (set(self.web.roads) - set(more)))

    def hang(self, road, half, end):
        if road not in self.web.roads:
            return (NoRoad, road), None
        if not self.are_free((half, end)):
            return (BadNames, (half, end)), None
        if len(self.web.junctions) == 12:
            return (Full, 12), None
        return self.with_names(hung_plainly(self.web, road, half, end),
                               {**self.borne, half: self.borne[road], end: 0})

    def take(self, end):
        if end not in self.web.ends:
            return (BadEnd, end), None
        if len(self.web.junctions) == 1:
            return (Lone, end), None
        if self.borne[end]:
            return (Borne, self.borne[end]), None
        return self.with_names(taken_plainly(self.web, end), self.borne)

    def join(self, one, other, road):
        if one not in self.web.ends:
            return (BadEnd, one), None
        if other not in self.web.ends or other == one:
            return (BadEnd, other), None
        if not self.are_free((road,), (one, other)):
            return (BadName, road), None
        if self.borne[one] != self.borne[other]:
            return (Unequal, (self.borne[one], self.borne[other])), None
        return self.with_names(joined_plainly(self.web, one, other, road), {**self.borne, road: self.borne[one]})

    def part(self, road, first, second):
        if road not in self.web.inner:
            return (NoInner, road), None
        if not self.are_free((first, second), (road,)):
            return (BadNames, (first, second)), None
        webs = cut_plainly(self.web, road, first, second)
        if len(webs) == 2:
            return (Bridge, road), None
        both = {first: self.borne[road], second: self.borne[road]}
        return self.with_names(webs[0], {**self.borne, **both})
