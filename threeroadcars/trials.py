"""Blocks in which deeds are tried on a bench (section 15); for bench.py."""


class Trial:
    """A block behind which a bench is as it was ahead of it, unless what was done is kept."""

    def __init__(self, bench):
        self.bench = bench
        # None until keep is called: a test of __exit__ asks by `is None` alone.
        self.kept = None

    def __enter__(self):
        bench = self.bench
        self.outer = bench.innermost
        self.web = bench.web
        self.room = bench.room
        self.load = bench.load
        self.ends = bench.ends
        self.done = bench.done
        self.deeds = bench.deeds
        self.past = bench.past
        self.undone = bench.undone
        bench.innermost = self
        return bench

    def __exit__(self, kind, value, trace):
        bench = self.bench
        bench.innermost = self.outer
        if kind is not None or self.kept is None:
            bench.web = self.web
            bench.room = self.room
            bench.load = self.load
            bench.ends = self.ends
            bench.done = self.done
            bench.deeds = self.deeds
            bench.past = self.past
            bench.undone = self.undone
