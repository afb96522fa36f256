"""How an expression of a calm machine is laid: by towers, height by height."""

from calmword.tellsheets import TellSheet
from calmword.towers import Towers
from calmword.walks import come_up


# Told are numbers of rows on the sheet. By a height, from the top of all rooms alone down to whole towers, it is known
# which texts lead from each top to each other one. A brick below a top is known by the last letter that set it anew:
# which letters do so hangs on the top alone.
class Groundwork:
    def __init__(self, machine):
        self.sheet = TellSheet(machine[0])
        self.towers = Towers(machine[1])
        self.first = self.towers.tower_of(0)
        self.highest = self.towers.heights[self.towers.whole]
        self.tops = self.all_tops(len(machine[0]))
        self.events = self.all_events(len(machine[0]))
        self.known = {}

    # By height the tops of all towers that come up.
    def all_tops(self, signs):
        came = come_up(self.first, signs, lambda tower, sign: self.towers.top_led_on(tower, sign, 0))[0]
        tops = {}
        for height in range(self.highest + 1):
            tops[height] = list(dict([(self.towers.top(tower, height), True) for tower in came]))
        return tops

    # By height and number of a letter, for each top what the letter does there.
    def all_events(self, signs):
        events = {}
        for height in self.tops:
            for sign in range(signs):
                events[(height, sign)] = [self.towers.event(top, sign, height) for top in self.tops[height]]
        return events

    # All texts that lead from the first tower to one whose room has yes.
    def of_rooms(self, yes):
        towers = [tower for tower in self.tops[0] if yes[tower[-1][0]]]
        return self.sheet.any_of([self.leading(0, self.first, tower) for tower in towers])

    def leading(self, height, one, other):
        key = ("leading", height, one, other)
        if key not in self.known:
            self.known[key] = self.find_leading(height, one, other)
        return self.known[key]

    def find_leading(self, height, one, other):
        if height == self.highest:
            return self.sheet.every
        upper = height + 1
        left = self.towers.top(one, upper)
        right = self.towers.top(other, upper)
        between = self.leading(upper, left, right)
        if right == other:
            return between
        mark = self.towers.mark(right[-1], other[len(right)])
        marked = self.set_anew(upper, left, mark)
        # What stands below the one may be still there.
        if left != one and self.towers.mark(left[-1], one[len(left)]) == mark:
            marked = self.sheet.either(marked, self.left_alone(upper, left, mark[0]))
        return self.sheet.both(between, marked)

    # Texts, read from the top on, that set a brick with the mark, and behind that no brick of the same head.
    def set_anew(self, height, top, mark):
        key = ("set", height, top, mark)
        if key not in self.known:
            endings = {}
            for target in self.tops[height]:
                setting = self.ending(height, top, lambda event: event == (target, mark))
                if setting != self.sheet.nothing:
                    endings.setdefault(self.left_alone(height, target, mark[0]), []).append(setting)
            parts = [self.sheet.behind(self.sheet.any_of(endings[rest]), rest) for rest in endings]
            self.known[key] = self.sheet.any_of(parts)
        return self.known[key]

    # Texts, read from the top on, that set no brick of the head anew.
    def left_alone(self, height, top, head):
        key = ("alone", height, top, head)
        if key not in self.known:
            setting = self.ending(height, top, lambda event: event[1] is not None and event[1][0] == head)
            self.known[key] = self.sheet.no(self.sheet.behind(setting, self.sheet.every))
        return self.known[key]

    # Texts, read from the top on, of which the last letter does what fits.
    def ending(self, height, top, fits):
        letters = {}
        for sign, letter in enumerate(self.sheet.letters):
            events = self.events[(height, sign)]
            sources = tuple([source for source, event in zip(self.tops[height], events) if fits(event)])
            letters.setdefault(sources, []).append(letter)
        parts = []
        for sources in letters:
            ahead = self.sheet.any_of([self.leading(height, top, source) for source in sources])
            parts.append(self.sheet.behind(ahead, self.sheet.any_of(letters[sources])))
        return self.sheet.any_of(parts)
