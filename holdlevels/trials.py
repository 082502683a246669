"""Blocks at whose end an object is as at their beginning."""


class Kept:
    """The state of an object at the beginning of a block, and what was kept around the block."""

    def __init__(self, state, around):
        self.state = state
        self.around = around


class Trial:
    """A block for an object whose whole state is one value that never changes."""

    def __init__(self, box):
        self._box = box
        self._kept = None

    def __enter__(self):
        self._kept = Kept(self._box._state, self._kept)
        return self._box

    def __exit__(self, kind, value, trace):
        box = self._box
        box._state = self._kept.state
        self._kept = self._kept.around
