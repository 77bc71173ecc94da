"""Programs, settings and changes out of seeds, held against the document done once more in naive.py.

[1.5, 3.3 to 3.6, 4.2, 5.1 to 5.3, 6.1 to 6.5, 7.1, 7.2, 8.1 to 8.5, 9.1, 9.2, 10.2, 11.2, 0.2]
"""

import itertools
import pathlib
import sys
import unittest

sys.path.insert(0, str(pathlib.Path(__file__).resolve().parent))

from naive import Maker, NaiveRun, naive_book, naive_fault, naive_leads, naive_why  # noqa: E402

from hadbeen.checker import check  # noqa: E402
from hadbeen.errors import BadBook, NoPart  # noqa: E402
from hadbeen.houses import House  # noqa: E402
from hadbeen.least import least  # noqa: E402
from hadbeen.notes import book_text, change_text, read_book, read_change  # noqa: E402
from hadbeen.parts import is_whole, lines_of, made_by, outside, part_of  # noqa: E402
from hadbeen.programs import read_program  # noqa: E402
from hadbeen.redo import had_been  # noqa: E402
from hadbeen.runs import run_of  # noqa: E402
from hadbeen.settings import Setting  # noqa: E402
from hadbeen.whys import leads, parted, why  # noqa: E402

SEEDS = range(250)
# Longer runs are held against one another as runs alone: the naive books take too long of them.
SHORT = 80


def naive_of(setting):
    return NaiveRun(setting.program.text(), setting.start(), setting.bound, setting.forced())


class NaiveCase(unittest.TestCase):
    def made(self, seed):
        maker = Maker(seed)
        text, start, bound = maker.program(), maker.start(), maker.one_of((400, 400, 60, 25, 7))
        return maker, Setting(read_program(text), start, bound)

    def changed(self, maker, setting, addresses, many):
        for turn in range(many):
            setting = setting.changed(maker.change(setting.program.text(), addresses))
        return setting

    def assert_same(self, run, naive):
        self.assertEqual(run.moments(), naive.moments)
        self.assertEqual(run.end(), naive.last_end)


class RunsTest(NaiveCase):
    def test_runs(self):
        ends = set()
        for seed in SEEDS:
            with self.subTest(seed=seed):
                maker, setting = self.made(seed)
                naive = naive_of(setting)
                run = run_of(setting)
                self.assert_same(run, naive)
                self.assertEqual(run.addresses(), sorted(set(run.addresses())))
                ends.add(run.end()[:2])
                for many in (0, 1, len(naive.moments) // 2, len(naive.moments)):
                    if many <= len(naive.moments):
                        self.assertEqual(run.behind(many), naive.behind(many))
        self.assertEqual(ends, {("ended",), ("tired",), ("fell", "nought"), ("fell", "deep")})

    def test_parts(self):
        for seed in SEEDS:
            maker, setting = self.made(seed)
            naive = naive_of(setting)
            run = run_of(setting)
            for address in naive.addresses()[:SHORT]:
                with self.subTest(seed=seed, address=address):
                    numbers = naive.part(address)
                    if numbers is None:
                        with self.assertRaises(NoPart):
                            part_of(run, address)
                        continue
                    self.assertEqual(numbers, list(range(numbers[0], numbers[-1] + 1)))
                    self.assertEqual(part_of(run, address), (numbers[0], numbers[-1] + 1))
                    self.assertEqual(outside(run, address), naive.outside(numbers))
                    moments = [naive.moments[number] for number in numbers]
                    self.assertEqual(made_by(run, address), dict(pair for moment in moments for pair in moment[2]))
                    self.assertEqual(lines_of(run, address), sorted({naive.line(moment[0]) for moment in moments}))
                    self.assertIs(is_whole(run, address), naive.whole(address))


class ChainsCase(NaiveCase):
    def chains(self):
        """Old runs, each with its naive one, and a setting that comes of it by changes, each with its naive run."""
        for seed in SEEDS:
            maker, setting = self.made(seed)
            old, naive_old = run_of(setting), naive_of(setting)
            for turn in range(3):
                other = self.changed(maker, setting, old.addresses(), maker.one_of((1, 1, 2, 4)))
                naive_new = naive_of(other)
                yield maker, old, naive_old, other, naive_new
                old, naive_old, setting = had_been(old, other)[0], naive_new, other


class BooksTest(ChainsCase):
    def test_the_new_run_and_its_book(self):
        kinds = []
        for maker, old, naive_old, setting, naive_new in self.chains():
            run, book = had_been(old, setting)
            self.assert_same(run, naive_new)
            self.assert_same(check(old, setting, book), naive_new)
            self.assertEqual(read_book(book_text(book)), book)
            if len(naive_new.moments) <= SHORT:
                self.assertEqual(book, naive_book(naive_old, naive_new))
            kinds += [entry[0] for entry in book]
        for kind in ("part", "kept", "done"):
            self.assertGreater(kinds.count(kind), 200)

    def test_books_that_keep_less_are_let_by(self):
        for maker, old, naive_old, setting, naive_new in self.chains():
            if len(naive_new.moments) <= SHORT:
                book = naive_book(naive_old, naive_new, maker.one_of)
                self.assert_same(check(old, setting, book), naive_new)

    def test_spoilt_books_fail_at_the_first_entry_that_is_not_so(self):
        refused = 0
        for maker, old, naive_old, setting, naive_new in self.chains():
            if not 0 < len(naive_new.moments) <= SHORT // 2:
                continue
            for turn in range(4):
                book = self.spoilt(maker, naive_book(naive_old, naive_new, maker.one_of), old)
                fault = naive_fault(naive_old, naive_new, book)
                if fault is None:
                    self.assert_same(check(old, setting, book), naive_new)
                    continue
                with self.assertRaises(BadBook) as caught:
                    check(old, setting, book)
                self.assertEqual(caught.exception.number, fault)
                refused += 1
        self.assertGreater(refused, 500)

    def spoilt(self, maker, book, old):
        number = maker.chance.randrange(len(book))
        entry = book[number]
        way = maker.chance.randrange(7)
        if way == 0:
            return book[:number] + book[number + 1:]
        if way == 1:
            return book[:number] + [entry] + book[number:]
        if way == 2:
            return book + [entry]
        if way == 3 and entry[0] != "done":
            return book[:number] + [entry[:2] + (entry[2] + [maker.one_of((-1, 0, number))],)] + book[number + 1:]
        if way == 4 and entry[0] != "done" and entry[2]:
            makers = list(entry[2])
            makers[maker.chance.randrange(len(makers))] = maker.one_of((-1, 0, 1, number, True))
            return book[:number] + [entry[:2] + (makers,)] + book[number + 1:]
        if way == 5:
            address = maker.one_of(old.addresses() or [()])
            return book[:number] + [(entry[0], address) + entry[2:]] + book[number + 1:]
        kind = maker.one_of(("part", "kept"))
        makers = [maker.one_of((-1, 0)) for turn in range(maker.chance.randrange(3))]
        return book[:number] + [(kind, entry[1], makers)] + book[number + 1:]


class WhysTest(ChainsCase):
    def test_why(self):
        words = set()
        for maker, old, naive_old, setting, naive_new in self.chains():
            if max(len(naive_old.moments), len(naive_new.moments)) > SHORT:
                continue
            new = had_been(old, setting)[0]
            here, there = naive_old.addresses(), naive_new.addresses()
            both = [address for address in here if address in there]
            same = [address for address in both if old.moment(address) == new.moment(address)]
            self.assertEqual(parted(old, new), (
                [address for address in here if address not in there],
                [address for address in there if address not in here],
                [address for address in both if address not in same], same))
            for address in sorted(set(here + there)):
                answer = why(old, new, address)
                self.assertEqual(answer, naive_why(naive_old, naive_new, address))
                words.add((answer[0], answer[1][0]) if answer[0] == "ended" else answer[0])
                self.assert_leads_back(old, new, address, answer, same)
            for address in there:
                self.assertEqual(leads(new, address), naive_leads(naive_new, address))
        self.assertEqual(words, {"alike", "row", "read", "goes", "fresh", "gone", ("ended", "fell"),
                                 ("ended", "tired")})

    def assert_leads_back(self, old, new, address, answer, same):
        ahead = None
        if answer[0] in ("fresh", "gone"):
            ahead = answer[1]
        elif answer[0] == "read" and answer[4:] != (None, None):
            ahead = max(maker for maker in answer[4:] if maker is not None)
        elif answer[0] == "ended" and answer[1][0] == "fell":
            ahead = answer[1][2]
        if ahead is not None:
            self.assertLess(ahead, address)
            self.assertNotIn(ahead, same)
        elif answer[0] == "read":
            self.assertEqual((old.setting.holds(answer[1]), new.setting.holds(answer[1])), answer[2:4])
        elif answer[0] == "row":
            self.assertNotEqual(*[run.setting.program.lines()[answer[1]] for run in (old, new)])


class HousesTest(NaiveCase):
    def test_changes_put_and_taken_back(self):
        for seed in range(80):
            maker, setting = self.made(seed)
            house, stands = House(setting), {}
            for turn in range(8):
                change = maker.change(setting.program.text(), house.run().addresses())
                ahead = house.run()
                if stands and maker.chance.randrange(3) == 0:
                    key = maker.one_of(list(stands))
                    stands.pop(key)
                    book = house.take(key)
                else:
                    stands[change[:2]] = change
                    book = house.put(read_change(change_text(change)))
                self.assertEqual(house.changes(), list(stands.values()))
                now = setting
                for one in sorted(stands.values(), key=repr):
                    now = now.changed(one)
                with self.subTest(seed=seed, turn=turn):
                    self.assert_same(house.run(), naive_of(now))
                    self.assert_same(check(ahead, now, book), naive_of(now))
                    self.assertEqual(book, had_been(ahead, now)[1])


class LeastTest(NaiveCase):
    def test_least_sets(self):
        granted = 0
        for seed in range(60):
            maker, setting = self.made(seed)
            old = run_of(setting)
            changes = {}
            for turn in range(4):
                change = maker.change(setting.program.text(), old.addresses())
                changes[change[:2]] = change
            changes = list(changes.values())
            asked = []
            for size in range(len(changes) + 1):
                for numbers in itertools.combinations(range(len(changes)), size):
                    now = setting
                    for number in numbers:
                        now = now.changed(changes[number])
                    asked.append((list(numbers), [one[3] for one in naive_of(now).moments if one[3] is not None]))
            for numbers, tells in asked:
                first = [other for other, told in asked].index([other for other, told in asked if told == tells][0])
                self.assertEqual(least(old, changes, ("tells", tells)), (asked[first][0], asked[:first + 1]))
                granted += first > 0
        self.assertGreater(granted, 50)


if __name__ == "__main__":
    unittest.main()
