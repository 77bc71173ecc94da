"""What would have been: the run of a changed setting, made out of an old run, and the book of what was kept."""

from hadbeen.course import changed_line
from hadbeen.parts import has_part, is_whole, outside, part_moments
from hadbeen.runs import Walk


class Redo:
    """The new run as it grows, and the book of it so far."""

    def __init__(self, old, setting):
        self.old = old
        self.walk = Walk(setting)
        self.book = []
        # The number of the entry whose moments made a place last.
        self.makers = {}

    def is_over(self):
        return self.walk.is_over()

    def may_write(self, kind):
        if kind == "done":
            return True
        if self.old.found(self.walk.ahead) is None:
            return False
        return self.may_keep_part() if kind == "part" else self.may_keep_moment()

    def may_keep_moment(self):
        return self.stands(self.old.found(self.walk.ahead), {})

    def may_keep_part(self):
        # The first moment is asked by itself ahead of the part, which may be long.
        if not has_part(self.old, self.walk.ahead) or not self.may_keep_moment():
            return False
        moments = part_moments(self.old, self.walk.ahead)
        if len(self.walk.passed) + len(moments) > self.walk.setting.bound:
            return False
        return is_whole(self.old, self.walk.ahead) and self.all_stand(moments)

    def all_stand(self, moments):
        made = {}
        for moment in moments:
            if not self.stands(moment, made):
                return False
            made.update(moment.makes)
        return True

    def stands(self, moment, made):
        """Whether a moment of the old run may be kept, where places were made ahead of it in the same part."""
        return self.reads_as_now(moment, made) and self.goes_as_now(moment) and self.has_same_lines(moment)

    def reads_as_now(self, moment, made):
        # What the part made itself is as it was, if all ahead of it is.
        held = self.walk.held
        return all([place in made or held.get(place, 0) == value for place, value in moment.reads])

    def goes_as_now(self, moment):
        # Of a moment that doesn't look, or fell, both are None, and nothing forces it.
        if moment.looked is None:
            return True
        return self.walk.setting.way_of(moment.address, moment.looked) == moment.goes

    def has_same_lines(self, moment):
        return changed_line(self.old.setting.program, self.walk.setting.program, moment.address) is None

    def entry(self, kind):
        """The entry of this kind, where it may be written now."""
        address = self.walk.ahead
        if kind == "done":
            return ("done", address)
        pairs = outside(self.old, address) if kind == "part" else self.old.found(address).reads
        return (kind, address, [self.makers.get(place, -1) for place, value in pairs])

    def write(self, kind):
        number = len(self.book)
        self.book.append(self.entry(kind))
        for moment in self.moments_for(kind):
            self.walk.pass_moment(moment)
            for place, value in moment.makes:
                self.makers[place] = number

    def moments_for(self, kind):
        if kind == "done":
            return [self.walk.done()]
        if kind == "part":
            return part_moments(self.old, self.walk.ahead)
        return [self.old.found(self.walk.ahead)]

    def as_run(self):
        return self.walk.as_run()


def had_been(old, setting):
    redo = Redo(old, setting)
    while not redo.is_over():
        redo.write(greatest_kind(redo))
    return (redo.as_run(), redo.book)


def greatest_kind(redo):
    if redo.may_write("part"):
        return "part"
    return "kept" if redo.may_write("kept") else "done"
