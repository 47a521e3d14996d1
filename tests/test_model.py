"""Long lists of calls, answered by the program and by a plain model that makes all anew from the base."""

import random
import unittest

from cellpad.notebook import answers

import helper


class CannotBeDone(Exception):
    pass


class Model:
    """What the document's words tell, with cells as dicts and no document kept but the base."""

    def __init__(self):
        self.base = []
        self.done = []
        self.undone = []
        self.group = None
        self.number = 1
        self.forgotten = 0

    def made_by(self, steps):
        """What the base becomes by these steps."""
        cells = [dict(cell) for cell in self.base]
        for edit in [edit for step in steps for edit in step]:
            self.apply(cells, edit)
        return cells

    def made(self):
        return self.made_by(self.done + [self.group or []])

    def history(self):
        return self.done + self.undone

    def spot(self, cells, number):
        found = [spot for spot, cell in enumerate(cells) if cell["number"] == number]
        if not found:
            raise CannotBeDone(-1)
        return found[0]

    def spot_behind(self, cells, after):
        if after == 0:
            return 0
        try:
            return self.spot(cells, after) + 1
        except CannotBeDone:
            raise CannotBeDone(-2) from None

    def room(self, cells):
        if len(cells) == 12:
            raise CannotBeDone(-6)

    def swapped_bytes(self, text, x, y):
        # Texts of characters find just where the document says, from the left and without overlap.
        return [ord(sign) for sign in "".join(map(chr, text)).replace("".join(map(chr, x)), "".join(map(chr, y)))]

    def apply(self, cells, edit):
        """Do the edit on the cells; the answer, as far as it does not need the next number."""
        name = edit[0]
        return getattr(self, "apply_" + name)(cells, *edit[1:])

    def apply_make(self, cells, number, after, text):
        spot = self.spot_behind(cells, after)
        self.fit(text)
        self.room(cells)
        cells.insert(spot, {"number": number, "mark": 0, "text": list(text)})
        return number

    def apply_write(self, cells, number, text):
        cell = cells[self.spot(cells, number)]
        self.fit(text)
        cell["text"] = list(text)
        return 0

    def apply_move(self, cells, number, after):
        cell = cells.pop(self.spot(cells, number))
        cells.insert(self.spot_behind(cells, after), cell)
        return 0

    def apply_drop(self, cells, number):
        cells.pop(self.spot(cells, number))
        return 0

    def apply_hide(self, cells, number, mark):
        cell = cells[self.spot(cells, number)]
        if mark != 0 and mark != 1:
            raise CannotBeDone(-18)
        cell["mark"] = mark
        return 0

    def apply_split(self, cells, number, place, new_number):
        spot = self.spot(cells, number)
        text = cells[spot]["text"]
        if place < 0 or place > len(text):
            raise CannotBeDone(-8)
        self.room(cells)
        cells.insert(spot + 1, {"number": new_number, "mark": cells[spot]["mark"], "text": text[place:]})
        cells[spot]["text"] = text[:place]
        return new_number

    def apply_join(self, cells, number):
        spot = self.spot(cells, number)
        if spot == len(cells) - 1:
            raise CannotBeDone(-9)
        gone = cells.pop(spot + 1)
        cells[spot]["text"] = cells[spot]["text"] + gone["text"]
        if len(cells[spot]["text"]) > 200:
            raise CannotBeDone(-5)
        return gone["number"]

    def apply_swap(self, cells, a, b):
        spot_a, spot_b = self.spot(cells, a), self.spot(cells, b)
        cells[spot_a], cells[spot_b] = cells[spot_b], cells[spot_a]
        return 0

    def apply_replace(self, cells, x, y):
        if [byte for byte in x + y if byte not in range(256)]:
            raise CannotBeDone(-4)
        self.fit(x)
        self.fit(y)
        if not x:
            raise CannotBeDone(-17)
        count = 0
        for cell in cells:
            count += "".join(map(chr, cell["text"])).count("".join(map(chr, x)))
            cell["text"] = self.swapped_bytes(cell["text"], x, y)
            if len(cell["text"]) > 200:
                raise CannotBeDone(-5)
        return count

    def fit(self, text):
        if [byte for byte in text if byte not in range(256)]:
            raise CannotBeDone(-4)
        if len(text) > 200:
            raise CannotBeDone(-5)

    def add(self, step):
        self.done.append(step)
        self.undone = []
        if len(self.done) > 20:
            self.forgotten += 1
            for edit in self.done.pop(0):
                self.apply(self.base, edit)

    def edit(self, edit):
        if self.group is not None and len(self.group) == 10:
            return -10
        before = self.made()
        after = self.made()
        try:
            answer = self.apply(after, edit)
        except CannotBeDone as refusal:
            return refusal.args[0]
        if edit[0] in ("make", "split"):
            if self.number > 99:
                return -16
            self.number += 1
        if after == before:
            return -7
        if self.group is None:
            self.add([edit])
        else:
            self.group.append(edit)
        return answer

    def begin(self):
        if self.group is not None:
            return -11
        self.group = []
        return 0

    def close(self, keep):
        if self.group is None:
            return -12
        edits, self.group = self.group, None
        if keep and edits:
            self.add(edits)
        return len(edits)

    def undo(self):
        if self.group is not None:
            return -11
        if not self.done:
            return -13
        self.undone.insert(0, self.done.pop())
        return len(self.done)

    def redo(self):
        if self.group is not None:
            return -11
        if not self.undone:
            return -14
        self.done.append(self.undone.pop(0))
        return len(self.undone)

    def to(self, position):
        if self.group is not None:
            return -11
        if position not in range(len(self.history()) + 1):
            return -3
        count = 0
        while len(self.done) > position:
            self.undo()
            count += 1
        while len(self.done) < position:
            self.redo()
            count += 1
        return count

    def strike(self, index):
        if self.group is not None:
            return -11
        if index not in range(len(self.done)):
            return -3
        rest = [step for k, step in enumerate(self.done) if k != index]
        try:
            self.made_by(rest)
        except CannotBeDone:
            return -15
        self.done = rest
        self.undone = []
        return 0

    def tell(self, cells):
        return [len(cells)] + [
            number for cell in cells for number in [cell["number"], cell["mark"]] + helper.row(cell["text"])
        ]

    def whole(self):
        return self.tell(self.made())

    def text(self, number):
        for cell in self.made():
            if cell["number"] == number:
                return helper.row(cell["text"])
        return [-1]

    def at(self, position):
        if position not in range(len(self.history()) + 1):
            return [-3]
        return self.tell(self.made_by(self.history()[:position]))

    def state(self):
        return [len(self.done), len(self.history()), int(self.group is not None), len(self.group or []), self.number,
                self.forgotten]

    def step(self, index):
        if index not in range(len(self.history())):
            return [-3]
        edits = self.history()[index]
        answer = [len(edits)]
        for name, *arguments in edits:
            answer.append("make write move drop hide split join swap replace".split().index(name))
            for argument in arguments:
                answer += helper.row(argument) if isinstance(argument, list) else [argument]
        return answer

    def changed(self, p, q):
        positions = range(len(self.history()) + 1)
        if p not in positions or q not in positions:
            return [-3]
        at_p = {cell["number"]: cell for cell in self.made_by(self.history()[:p])}
        at_q = {cell["number"]: cell for cell in self.made_by(self.history()[:q])}
        kinds = {}
        for number in list(at_p) + list(at_q):
            if number not in at_q:
                kinds[number] = 1
            elif number not in at_p:
                kinds[number] = 2
            else:
                text_differs = at_p[number]["text"] != at_q[number]["text"]
                mark_differs = at_p[number]["mark"] != at_q[number]["mark"]
                kind = {(True, False): 3, (False, True): 4, (True, True): 5}.get((text_differs, mark_differs))
                if kind:
                    kinds[number] = kind
        return [len(kinds)] + [number for pair in kinds.items() for number in pair]

    def blame(self, number):
        documents = [self.made_by(self.done[:position]) for position in range(len(self.done) + 1)]
        if self.group is not None:
            documents.append(self.made())
        texts = [[cell["text"] for cell in cells if cell["number"] == number] for cells in documents]
        if not texts[-1]:
            return -1
        return max([i for i in range(1, len(texts)) if texts[i] != texts[i - 1] or not texts[i - 1]], default=0)

    def find(self, x):
        if [byte for byte in x if byte not in range(256)]:
            return [-4]
        if not x:
            return [-17]
        found = []
        for cell in self.made():
            signs, wanted = "".join(map(chr, cell["text"])), "".join(map(chr, x))
            place = signs.find(wanted)
            while place >= 0:
                found += [cell["number"], place]
                place = signs.find(wanted, place + len(wanted))
        return [len(found) // 2] + found


EDITING = (0, 0, 0, 1, 2, 3, 4, 5, 5, 6, 7, 8, 8, 9, 10, 10, 11)
TELLING = (16, 17, 18, 19, 20, 21, 22, 23)


class Maker:
    """Calls drawn by a seed, each with what the model answers."""

    def __init__(self, seed):
        self.draw = random.Random(seed)
        self.model = Model()
        # Some lists go with short texts of two bytes, in which much is found, some with long ones.
        self.longest = self.draw.choice((3, 8, 60, 110))
        self.wrong = self.draw.choice((0, 10, 40))
        # Some lists seldom go back, so that steps are forgotten, some go to and fro in the history.
        self.kinds = EDITING * 2 + self.draw.choice(((12, 15), (12, 13, 15) * 2, (12, 13, 14, 15) * 3)) + TELLING

    def ahead(self):
        """Calls that use up most numbers, for so many are seldom drawn; each with the model's answer."""
        drawn = []
        for group in range(8):
            drawn.append((helper.BEGIN, self.model.begin()))
            for k in range(10):
                drawn.append((helper.new(0, []), self.model.edit(("make", self.model.number, 0, []))))
            drawn.append((helper.CANCEL, self.model.close(False)))
        return drawn

    def odd(self):
        """Whether a wrong argument is to be drawn, of 200 times as many as wrong says."""
        return self.draw.randrange(200) < self.wrong

    def number(self):
        cells = self.model.made()
        if not cells or self.odd():
            return self.draw.choice((0, -1, 50, 100, self.model.number, helper.HUGE, -helper.HUGE))
        return self.draw.choice(cells)["number"]

    def after(self):
        return 0 if self.draw.randrange(4) == 0 else self.number()

    def text(self, longest):
        if self.odd():
            return [self.draw.choice((1, 256, -1, helper.HUGE))] * self.draw.choice((1, 200, 201, 400))
        return [self.draw.choice((0, 1)) for k in range(self.draw.randrange(longest + 1))]

    def place(self, number):
        lengths = [len(cell["text"]) for cell in self.model.made() if cell["number"] == number]
        if self.odd() or not lengths:
            return self.draw.choice((-1, 201, helper.HUGE, -helper.HUGE) + tuple(length + 1 for length in lengths))
        return self.draw.randrange(lengths[0] + 1)

    def position(self, last):
        """A number from 0 to the last."""
        if self.odd() or last < 0:
            return self.draw.choice((-1, last + 1, helper.HUGE, -helper.HUGE))
        return self.draw.randrange(last + 1)

    def one(self):
        """A call, and the model's answer to it."""
        kind = self.draw.choice(self.kinds)
        return self.one_edit(kind) if kind < 12 else self.one_other(kind)

    def one_other(self, kind):
        model = self.model
        steps = len(model.history())
        if kind == 12:
            return helper.UNDO, model.undo()
        if kind == 13:
            return helper.REDO, model.redo()
        if kind == 14:
            position = self.position(steps)
            return helper.to(position), model.to(position)
        if kind == 15:
            index = self.position(len(model.done) - 1)
            return helper.strike(index), model.strike(index)
        if kind == 16:
            return helper.WHOLE, model.whole()
        if kind == 17:
            number = self.number()
            return helper.text(number), model.text(number)
        if kind == 18:
            position = self.position(steps)
            return helper.at(position), model.at(position)
        if kind == 19:
            return helper.STATE, model.state()
        if kind == 20:
            index = self.position(steps - 1)
            return helper.step(index), model.step(index)
        if kind == 21:
            p, q = self.position(steps), self.position(steps)
            return helper.changed(p, q), model.changed(p, q)
        if kind == 22:
            number = self.number()
            return helper.blame(number), model.blame(number)
        x = self.text(3)
        return helper.find(x), model.find(x)

    def one_edit(self, kind):
        model = self.model
        if kind == 0:
            after, text = self.after(), self.text(self.longest)
            return helper.new(after, text), model.edit(("make", model.number, after, text))
        if kind == 1:
            number, text = self.number(), self.text(self.longest)
            return helper.write(number, text), model.edit(("write", number, text))
        if kind == 2:
            number, after = self.number(), self.after()
            return helper.move(number, after), model.edit(("move", number, after))
        if kind == 3:
            number = self.number()
            return helper.drop(number), model.edit(("drop", number))
        if kind == 4:
            number, mark = self.number(), 2 if self.odd() else self.draw.randrange(2)
            return helper.hide(number, mark), model.edit(("hide", number, mark))
        if kind == 5:
            number = self.number()
            place = self.place(number)
            return helper.split(number, place), model.edit(("split", number, place, model.number))
        if kind == 6:
            number = self.number()
            return helper.join(number), model.edit(("join", number))
        if kind == 7:
            a, b = self.number(), self.number()
            return helper.swap(a, b), model.edit(("swap", a, b))
        if kind == 8:
            x, y = self.text(3), self.text(3)
            return helper.replace(x, y), model.edit(("replace", x, y))
        if kind == 9:
            return helper.BEGIN, model.begin()
        if kind == 10:
            return helper.END, model.close(True)
        return helper.CANCEL, model.close(False)


def draw_list(seed):
    """At most 200 calls of 17000 numbers, each (call, the model's answer, a list)."""
    maker = Maker(seed)
    drawn = maker.ahead() if seed % 3 == 0 else []
    count = sum(len(call) for call, answer in drawn)
    while len(drawn) < 200:
        call, answer = maker.one()
        count += len(call)
        if count > 17000:
            break
        drawn.append((call, answer))
    return [(call, answer if isinstance(answer, list) else [answer]) for call, answer in drawn]


class AgainstTheModel(unittest.TestCase):
    def test_many_lists_of_calls(self):
        seen = {}
        for seed in range(150):
            drawn = draw_list(seed)
            given = helper.parted(answers(helper.flat(call for call, answer in drawn)))
            self.assertEqual(given, [answer for call, answer in drawn], seed)
            for call, answer in drawn:
                seen.setdefault(call[0], set()).add(min(answer[0], 0))
        # Else the lists that were drawn would say less than they seem to.
        edits = {0: {-2, -4, -5, -6, -16}, 1: {-1, -4, -5}, 2: {-1, -2}, 3: {-1}, 4: {-1, -18}, 5: {-1, -6, -8, -16},
                 6: {-1, -5, -9}, 7: {-1}, 8: {-4, -5, -17}}
        others = {9: {-11}, 10: {-12}, 11: {-12}, 12: {-11, -13}, 13: {-11, -14}, 14: {-3, -11}, 15: {-3, -11, -15},
                  16: set(), 17: {-1}, 18: {-3}, 19: set(), 20: {-3}, 21: {-3}, 22: {-1}, 23: {-4, -17}}
        for call, refusals in others.items():
            self.assertEqual(seen[call], refusals | {0}, call)
        for call, refusals in edits.items():
            unchanging = set() if call in (0, 3, 5, 6) else {-7}
            self.assertEqual(seen[call] - {-10}, refusals | unchanging | {0}, call)
        self.assertTrue(any(-10 in seen[call] for call in edits))


if __name__ == "__main__":
    unittest.main()
