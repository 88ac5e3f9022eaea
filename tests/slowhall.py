"""The hall by the document's words: each question is answered anew from all that was done so far."""

from tests.hall import KINDS, PALETTE, POTS, TEAMS

COLOURS = {row[0]: row[1:] for row in PALETTE[0]}
WASHES = {(ahead, behind): hours for ahead, behind, hours in PALETTE[1]}
RANKS = {kind: rank for kind, rank, cool in KINDS}
COOLS = {kind: cool for kind, rank, cool in KINDS}


class SlowAccount:
    def __init__(self, book, hour):
        self.slots = book.slots
        self.hour = hour
        self.done = []
        self.void = []
        self.cooled = []
        for at, number, deed in sorted(book.entries(), key=lambda entry: entry[:2]):
            if at <= hour:
                word = self.void_word(at, deed)
                if word is None:
                    self.done.append(self.row(at, number, deed))
                    self.cool(at, deed)
                else:
                    self.void.append((at, number, word))

    def of_pot(self, pot, words, behind=-1):
        """The places, in what was done behind a place, of a pot's deeds of these words."""
        return [at for at, (row, deed) in enumerate(self.done) if at > behind and row[3] == pot and row[2] in words]

    def last(self, pot, words):
        return max(self.of_pot(pot, words), default=-1)

    def is_broken(self, pot):
        return self.last(pot, ["break"]) > self.last(pot, ["new"])

    def busy_word(self, pot, hour):
        at = self.last(pot, ["wash", "new", "break"])
        if at < 0 or self.done[at][0][2] == "break":
            return None
        row, deed = self.done[at]
        if hour >= row[0] + deed[2]:
            return None
        return "washing" if deed[0] == "wash" else "warming"

    def glass(self, pot):
        at = self.last(pot, ["fill"])
        if at < 0 or self.of_pot(pot, ["empty", "break"], at):
            return None
        row = self.done[at][0]
        left = row[4] - sum(self.done[other][0][4] for other in self.of_pot(pot, ["gather"], at))
        return (row[5], left, row[1]) if left else None

    def glass_since(self, pot):
        row, deed = self.done[self.last(pot, ["fill"])]
        return row[0], deed[2]

    def void_word(self, hour, deed):
        pot = deed[2] if deed[0] == "gather" else deed[1]
        due = []
        if pot not in POTS or (deed[0] == "fill" and deed[2] not in COLOURS):
            return "name"
        if deed[0] == "gather" and (deed[1] not in dict(TEAMS) or deed[3] not in RANKS):
            return "name"
        due.append(("whole" if deed[0] == "new" else "broken", self.is_broken(pot) != (deed[0] == "new")))
        if deed[0] in ("fill", "wash"):
            due.append(("busy", self.busy_word(pot, hour) is not None))
            due.append(("glass", self.glass(pot) is not None))
        if deed[0] in ("empty", "gather"):
            due.append(("none", self.glass(pot) is None))
        if deed[0] == "gather" and self.glass(pot) is not None:
            at, colour = self.glass_since(pot)
            due.append(("cold", hour < at + COLOURS[colour][0] + COLOURS[colour][1]))
            due.append(("rank", RANKS[deed[3]] > dict(TEAMS)[deed[1]]))
            due.append(("less", self.glass(pot)[1] < deed[4]))
            due.append(("full", len(self.free_slots(hour)) < deed[4]))
        return next((word for word, is_due in due if is_due), None)

    def free_slots(self, hour):
        taken = [slot for slot, kind, colour, out in self.cooled if out > hour]
        return [slot for slot in range(self.slots) if slot not in taken]

    def is_streaked(self, pot, colour):
        new = self.last(pot, ["new"])
        fills = self.of_pot(pot, ["fill"], new)
        if not fills:
            return False
        needed = WASHES.get((self.done[fills[-1]][1][2], colour), 0)
        washed = sum(self.done[at][1][2] for at in self.of_pot(pot, ["wash"], fills[-1]))
        return needed is None or washed < needed

    def row(self, hour, number, deed):
        word = deed[0]
        pot = deed[2] if word == "gather" else deed[1]
        if word == "fill":
            colour = "" if self.is_streaked(pot, deed[2]) else deed[2]
            told = (COLOURS[deed[2]][2], colour, number)
        elif word in ("wash", "new") or self.glass(pot) is None:
            told = (0, "", None)
        else:
            colour, left, source = self.glass(pot)
            told = (deed[4] if word == "gather" else left, colour, source)
        return (hour, number, word, pot) + told, deed

    def cool(self, hour, deed):
        if deed[0] == "gather":
            colour = self.done[-1][0][5]
            for slot in self.free_slots(hour)[:deed[4]]:
                self.cooled.append((slot, deed[3], colour, hour + COOLS[deed[3]]))

    def rows(self):
        return [row for row, deed in self.done]

    def state(self, pot):
        if self.is_broken(pot):
            return "broken"
        busy = self.busy_word(pot, self.hour)
        if busy is not None or self.glass(pot) is None:
            return busy or "out"
        at, colour = self.glass_since(pot)
        charge, melt = COLOURS[colour][:2]
        if self.hour in range(at, at + charge):
            return "filled"
        return "melting" if self.hour in range(at + charge, at + charge + melt) else "ready"

    def pieces(self):
        made = [(deed[3], row[5]) for row, deed in self.done if deed[0] == "gather" for _ in range(deed[4])]
        return sorted((kind, colour, made.count((kind, colour))) for kind, colour in set(made))

    def tunnel(self):
        return sorted(piece for piece in self.cooled if piece[3] > self.hour)

    def sums(self, colour):
        moved = {"fill": 0, "gather": 0, "empty": 0, "break": 0, "wash": 0, "new": 0}
        for row, deed in self.done:
            if row[5] == colour:
                moved[deed[0]] += row[4]
        left = [self.glass(pot)[1] for pot in POTS if self.glass(pot) is not None and self.glass(pot)[0] == colour]
        return (moved["fill"], moved["gather"], moved["empty"], moved["break"], sum(left))
