"""Runs: from moment to moment by a setting, and what is told of them."""

from hadbeen.course import first_address, next_address
from hadbeen.errors import NoMoment
from hadbeen.moments import done_moment


class Run:
    """The moments of a run, and its end."""

    def __init__(self, setting, moments, end):
        # A copy: the asker may change what was handed in.
        self.setting = setting.again()
        self.passed = tuple(moments)
        self.ending = end
        self.numbers = {}
        for number, moment in enumerate(self.passed):
            self.numbers[moment.address] = number

    def moments(self):
        return [moment.told() for moment in self.passed]

    def end(self):
        return self.ending

    def tells(self):
        return [moment.said for moment in self.passed if moment.said is not None]

    def addresses(self):
        return [moment.address for moment in self.passed]

    def behind(self, many):
        if not 0 <= many <= len(self.passed):
            raise NoMoment("the run has not so many moments")
        held = self.setting.start()
        for moment in self.passed[:many]:
            held.update(moment.makes)
        return held

    def moment(self, address):
        found = self.found(address)
        if found is None:
            raise NoMoment("the run has no moment at this address")
        return found.told()

    def again(self):
        return Run(self.setting, self.passed, self.ending)

    def found(self, address):
        return self.passed[self.numbers[address]] if address in self.numbers else None


class Walk:
    """A run as it grows: its moments so far, what the places hold, and the address ahead, None where it is over."""

    def __init__(self, setting):
        self.setting = setting
        self.held = setting.start()
        self.passed = []
        self.ahead = None
        self.ending = None
        self.go_to(first_address(setting.program))

    def is_over(self):
        return self.ahead is None

    def done(self):
        """The moment ahead, done anew; it isn't passed yet."""
        return done_moment(self.setting, self.held, self.ahead)

    def pass_moment(self, moment):
        self.passed.append(moment)
        self.held.update(moment.makes)
        if moment.fell is not None:
            self.ahead = None
            self.ending = ("fell", moment.fell, moment.address)
        else:
            self.go_to(next_address(self.setting.program, moment.address, moment.goes))

    def go_to(self, address):
        self.ahead = None
        if address is None:
            self.ending = ("ended",)
        elif len(self.passed) >= self.setting.bound:
            self.ending = ("tired",)
        else:
            self.ahead = address

    def as_run(self):
        return Run(self.setting, self.passed, self.ending)


def run_of(setting):
    walk = Walk(setting)
    while not walk.is_over():
        walk.pass_moment(walk.done())
    return walk.as_run()
