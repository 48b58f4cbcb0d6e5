"""A house: steps and numbers under names, led by deeds that can be taken back."""

from stepswithin.deeds import done, done_ahead, is_deed, is_name, need_deeds
from stepswithin.errors import BadDeed, BadParameter, NothingBack


class House:
    """Things under names, and the deeds that were done. What is refused changes nothing."""

    def __init__(self):
        self.things = {}
        self.deeds = []
        # for each deed the things ahead of it: a deed that was followed is taken back alone, too
        self.past = []

    def names(self):
        """Return the ascending tuple of the names in use."""
        return tuple(sorted(self.things))

    def thing(self, name):
        """Return the pair (KIND, VALUE) of the thing under a name."""
        if not is_name(name) or name not in self.things:
            raise BadParameter(name)
        return self.things[name]

    def do(self, deed):
        """Do a deed."""
        if not is_deed(deed):
            raise BadDeed(0)
        self.take_over((deed,))

    def follow(self, deeds):
        """Do all deeds of a tuple in turn, or none."""
        need_deeds(deeds)
        self.take_over(deeds)

    def take_over(self, deeds):
        """Do checked deeds in turn and keep them, or none if one is refused."""
        things = self.things
        past = []
        for deed in deeds:
            past.append(things)
            things = done(things, deed)
        self.past.extend(past)
        self.deeds.extend(deeds)
        self.things = things

    def trial(self, deeds):
        """Return (how many deeds would be done ahead of the first refused one, the names in use behind them)."""
        need_deeds(deeds)
        many, things = done_ahead(self.things, deeds)
        return many, tuple(sorted(things))

    def undo(self):
        """Take the last deed back."""
        if self.past == []:
            raise NothingBack()
        self.things = self.past.pop()
        self.deeds = self.deeds[:-1]

    def log(self):
        """Return the tuple of the deeds done and not taken back."""
        return tuple(self.deeds)

    def copy(self):
        """Return a house of its own with the same things and log."""
        found = House()
        found.things = self.things
        found.deeds = list(self.deeds)
        found.past = list(self.past)
        return found

    def __eq__(self, other):
        return isinstance(other, House) and self.things == other.things

    def __len__(self):
        return len(self.deeds)

    def __iter__(self):
        return iter(self.deeds)
