"""Houses: a setting, changes that stand in it, and the run that comes of them."""

from hadbeen.errors import NoKey
from hadbeen.redo import had_been
from hadbeen.runs import run_of
from hadbeen.settings import key_of
from hadbeen.whys import parted


class House:
    """The first run, the changes that stand, and the run with them."""

    def __init__(self, setting):
        # A copy: the asker may change what was handed in.
        self.setting = setting.again()
        self.first = run_of(setting)
        self.present = self.first
        self.standing = []

    def put(self, change):
        number = self.number_of(key_of(change))
        if number is None:
            return self.let_stand(self.standing + [change])
        return self.let_stand(self.standing[:number] + [change] + self.standing[number + 1:])

    def take(self, key):
        number = self.number_of(key)
        if number is None:
            raise NoKey("no change with this key stands")
        return self.let_stand(self.standing[:number] + self.standing[number + 1:])

    def number_of(self, key):
        # Compared one by one: a key may be a thing that no dict can look up.
        for number, change in enumerate(self.standing):
            if key_of(change) == key:
                return number
        return None

    def let_stand(self, changes):
        setting = self.first.setting
        for change in changes:
            setting = setting.changed(change)
        # Nothing is kept ahead of this: what is refused changes nothing.
        told = had_been(self.present, setting)
        self.standing = changes
        self.present = told[0]
        return told[1]

    def run(self):
        # A copy: the house goes on from its own.
        return self.present.again()

    def changes(self):
        return list(self.standing)

    def parted(self):
        return parted(self.first, self.present)
