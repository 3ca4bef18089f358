"""A bench: a web with a load, under hands (section 15)."""

from threeroadcars.checks import check_room
from threeroadcars.counting import count
from threeroadcars.cutting import cut, hung, joined, taken
from threeroadcars.errors import Borne, Bridge, NoTrial, NothingToRedo, NothingToUndo, Tight, Unequal
from threeroadcars.flips import carried, flipped
from threeroadcars.loads import check_load, ends_of, load_told, needed_room, switched
from threeroadcars.lots import borne
from threeroadcars.trials import Trial
from threeroadcars.webs import Web


class Bench:
    """A web, a room and a load that fits it, and the deeds that led there."""

    def __init__(self, text, room):
        web = Web(text)
        check_room(room)
        # A journal tells how a bench began, and then its deeds.
        self.begun = "\n".join([f"bench {room}", text])
        # The lines of the deeds that stand, and where the bench stood ahead of each.
        self.deeds = ()
        self.past = ()
        # What was taken back: the deed's line and where it led, the last one first done again.
        self.undone = ()
        self.innermost = None
        self.stand(web, room, (0,) * len(web.roads))

    def __eq__(self, other):
        return isinstance(other, Bench) and self.begun == other.begun and self.deeds == other.deeds

    def stand(self, web, room, load):
        """Show where the deeds led."""
        self.web = web
        self.room = room
        self.load = load
        self.ends = ends_of(web, load)
        self.done = len(self.deeds)

    def lead(self, line, web, room, load):
        """Let a deed stand that leads to a web, a room and a load."""
        self.past = (*self.past, (self.web, self.room, self.load))
        self.deeds = (*self.deeds, line)
        self.undone = ()
        self.stand(web, room, load)

    def numbers(self):
        """What each road bears, by name."""
        return dict(zip(self.web.roads, self.load))

    def flip(self, road, way):
        """Flip a road of the web; the load is carried."""
        web = flipped(self.web, road, way)
        self.lead(f"flip {road} {way}", web, self.room, carried(self.web, self.room, self.load, road, way))

    def put(self, load):
        """Put a load on the web."""
        check_load(self.web, self.room, load)
        self.lead(" ".join(["put", *[str(number) for number in load]]), self.web, self.room, load)

    def widen(self, room):
        """Give the junctions another room, one that the load fits."""
        check_room(room)
        needed = needed_room(self.web, self.load)
        if needed > room:
            raise Tight(needed)
        self.lead(f"widen {room}", self.web, room, self.load)

    def switch(self, roads):
        """Switch the load on some roads."""
        load = switched(self.web, self.room, self.load, roads)
        self.lead(" ".join(["switch", *roads]), self.web, self.room, load)

    def change(self, line, web, numbers):
        """Let a deed stand that leads to another web, on which roads bear what is told."""
        self.lead(line, web, self.room, load_told(web, numbers))

    def hang(self, road, half, end):
        """Hang an end on a road, which bears nothing."""
        web, numbers = hung(self.web, road, half, end), self.numbers()
        self.change(f"hang {road} {half} {end}", web, {**numbers, half: numbers[road], end: 0})

    def take(self, end):
        """Take an end away that bears nothing."""
        web, numbers = taken(self.web, end), self.numbers()
        if numbers[end] > 0:
            raise Borne(numbers[end])
        # The road that two roads became has the name of one of them; both bore as much.
        self.change(f"take {end}", web, numbers)

    def join(self, one, other, road):
        """Join two ends that bear alike."""
        web, numbers = joined(self.web, one, other, road), self.numbers()
        if numbers[one] != numbers[other]:
            raise Unequal((numbers[one], numbers[other]))
        self.change(f"join {one} {other} {road}", web, {**numbers, road: numbers[one]})

    def part(self, road, first, second):
        """Cut a road that is no bridge."""
        webs, numbers = cut(self.web, road, first, second), self.numbers()
        if len(webs) > 1:
            raise Bridge(road)
        both = {first: numbers[road], second: numbers[road]}
        self.change(f"part {road} {first} {second}", webs[0], {**numbers, **both})

    def count(self):
        """How many loads of the web fit the room and have these ends' loads."""
        return count(self.web, self.room, self.ends)

    def borne(self, road):
        """The least and the greatest number that a road bears in such loads, and the step between."""
        return borne(self.web, self.room, self.ends, road)

    def undo(self):
        """Take the last deed back that stands."""
        if not self.deeds:
            raise NothingToUndo(None)
        self.undone = (*self.undone, (self.deeds[-1], self.web, self.room, self.load))
        web, room, load = self.past[-1]
        self.deeds = self.deeds[:-1]
        self.past = self.past[:-1]
        self.stand(web, room, load)

    def redo(self):
        """Do the deed again that was taken back last."""
        if not self.undone:
            raise NothingToRedo(None)
        line, web, room, load = self.undone[-1]
        left = self.undone[:-1]
        self.lead(line, web, room, load)
        self.undone = left

    def trial(self):
        """A block of deeds, behind which the bench is as ahead of it unless they are kept."""
        return Trial(self)

    def keep(self):
        """Keep what is done in the innermost block."""
        trial = self.innermost
        if trial is None:
            raise NoTrial(None)
        trial.kept = True

    def tried(self, look, *, keep=False):
        """What a function tells of the bench within a block of its own."""
        with self.trial():
            answer = look(self)
            if keep is True:
                self.keep()
        return answer

    def copy(self):
        """An independent bench that is alike, outside of all blocks."""
        other = Bench(self.web.text, self.room)
        other.begun = self.begun
        other.deeds = self.deeds
        other.past = self.past
        other.undone = self.undone
        other.stand(self.web, self.room, self.load)
        return other
