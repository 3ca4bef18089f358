"""The errors of the package (section 17)."""


class WebError(ValueError):
    """The error below which all others are: it keeps what it was created with."""

    def __init__(self, value):
        # The base class is passed nothing: value need not be a text.
        self.value = value


class BadWeb(WebError):
    """No text of a web: the number of the first wrong line, 0 for no string."""


class BadNames(WebError):
    """No tuple of unlike names, or names that cannot be given."""


class BadRoom(WebError):
    """No room."""


class BadLoad(WebError):
    """No load of the web that fits."""


class BadRoads(WebError):
    """No ascending tuple of roads of which each junction has none or two."""


class BadRoad(WebError):
    """Not the name of an inner road that can be flipped."""


class BadWay(WebError):
    """No way to flip a road."""


class BadScript(WebError):
    """No script: the number of the first wrong row, None for no tuple."""


class Unlike(WebError):
    """Two webs of which one cannot be led over into the other."""


class BadEnds(WebError):
    """No ends' loads."""


class NoRoad(WebError):
    """Not the name of a road of the web."""


class BadNumber(WebError):
    """No number in the range that is told."""


class BadRounds(WebError):
    """No number of rounds."""


class BadModulus(WebError):
    """No prime in the range that is told."""


class OddEnds(WebError):
    """Ends' loads with an odd sum: this sum."""


class BadTimes(WebError):
    """No integer in the range that is told for n."""


class HasRounds(WebError):
    """A web with rounds where one without is asked for: their number."""


class BadLayer(WebError):
    """No layer of the web."""


class BadTrips(WebError):
    """No row of trips of the web."""


class NoInner(WebError):
    """Not the name of an inner road."""


class BadEnd(WebError):
    """Not the name of an end, or not of another one."""


class BadName(WebError):
    """No name, or one that is given already."""


class Full(WebError):
    """A web that can have no more junctions: how many it has."""


class Lone(WebError):
    """An end that cannot be taken from the only junction."""


class Tight(WebError):
    """A room that the load does not fit: the least one that it fits."""


class Borne(WebError):
    """An end that bears something: how much."""


class Unequal(WebError):
    """Two ends that do not bear alike: what they bear."""


class Bridge(WebError):
    """A road that cannot be parted because the web would fall apart."""


class NothingToUndo(WebError):
    """No deed stands that could be taken back."""


class NothingToRedo(WebError):
    """No deed was taken back that could be done again."""


class NoTrial(WebError):
    """No trial in which something could be kept."""


class BadJournal(WebError):
    """No journal: the number of the first wrong line, 0 for no string."""


class BadWords(WebError):
    """A line that a desk does not understand."""
