"""Webs led over into one another, by flips (section 7)."""

from threeroadcars.checks import check_room
from threeroadcars.errors import BadScript, Unlike
from threeroadcars.flips import led, led_load, words_beside
from threeroadcars.loads import check_load
from threeroadcars.trails import Trail, straighten
from threeroadcars.webs import called_so, sorted_meets

ENDS = ("ends",)
ROUNDS = ("rounds",)
LED = "led"


def difference(one, other):
    """What two webs of unlike kinds differ in; () for webs of one kind."""
    if one.ends != other.ends:
        return ENDS
    if one.rounds != other.rounds:
        return ROUNDS
    return ()


def go_back(trail, gone, called):
    """Take the flips of another trail back on this one, whose roads are called otherwise."""
    rows = list(zip(gone.steps, gone.stages))
    for (road, _), stage in reversed(rows):
        # Which way leads back hangs on the sequence of words, who met whom does not.
        one, other = words_beside(stage, road)[:2]
        trail.let_meet(called[road], called.get(one, one), called.get(other, other))


def same_kind(one, other):
    """A script that leads one web over into the other, or why there is none."""
    unlike = difference(one, other)
    if unlike:
        return unlike
    trail, gone = Trail(one.junctions), Trail(other.junctions)
    roads, theirs = straighten(one, trail), straighten(other, gone)
    go_back(trail, gone, dict(zip(theirs, roads)))
    return (LED, tuple(trail.steps), tuple(sorted(zip(roads, theirs))))


def are_names(one, other, names):
    """Whether any value tells, for each inner road of one web, one of the other, each once."""
    if not isinstance(names, tuple):
        return False
    if not all([isinstance(row, tuple) and len(row) == 2 for row in names]):
        return False
    theirs = [its for _, its in names]
    return [road for road, _ in names] == list(one.inner) and all([road in theirs for road in other.inner])


def leads_over(one, other, script, names):
    """Whether any values are a script and names that lead one web to the other of its kind."""
    if not are_names(one, other, names):
        return False
    try:
        web = led(one, script)
    except BadScript:
        return False
    return sorted_meets(called_so(web.junctions, dict(names))) == sorted_meets(other.junctions)


def shows_same_kind(one, other, value):
    """Whether any value is right as what same_kind tells."""
    unlike = difference(one, other)
    if unlike:
        return value == unlike
    if not isinstance(value, tuple) or len(value) != 3 or value[0] != LED:
        return False
    return leads_over(one, other, value[1], value[2])


def led_over(one, other, room, load):
    """The load of the other web to which a script of same_kind carries a load of one."""
    check_room(room)
    check_load(one, room, load)
    told = same_kind(one, other)
    if told[0] != LED:
        raise Unlike(told)
    _, script, names = told
    numbers = dict(zip(one.roads, led_load(one, room, load, script)))
    theirs = {its: numbers[road] for road, its in names}
    return tuple([theirs[road] if road in theirs else numbers[road] for road in other.roads])
