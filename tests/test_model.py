"""Long lists of calls, answered by the program and by a plain model that makes all anew from the base."""

import random
import unittest

from cellpad.notebook import answers

import helper


class CannotBeDone(Exception):
    pass


class Model:
    """What the document's words tell, with cells as dicts and no document kept but the base."""

    def __init__(self):
        self.base = []
        self.done = []
        self.group = None
        self.number = 1

    def made(self):
        cells = [dict(cell) for cell in self.base]
        for edit in [edit for step in self.done for edit in step] + (self.group or []):
            self.apply(cells, edit)
        return cells

    def spot(self, cells, number):
        found = [spot for spot, cell in enumerate(cells) if cell["number"] == number]
        if not found:
            raise CannotBeDone(-1)
        return found[0]

    def spot_behind(self, cells, after):
        if after == 0:
            return 0
        try:
            return self.spot(cells, after) + 1
        except CannotBeDone:
            raise CannotBeDone(-2) from None

    def room(self, cells):
        if len(cells) == 12:
            raise CannotBeDone(-6)

    def swapped_bytes(self, text, x, y):
        # Texts of characters find just where the document says, from the left and without overlap.
        return [ord(sign) for sign in "".join(map(chr, text)).replace("".join(map(chr, x)), "".join(map(chr, y)))]

    def apply(self, cells, edit):
        """Do the edit on the cells; the answer, as far as it does not need the next number."""
        name = edit[0]
        return getattr(self, "apply_" + name)(cells, *edit[1:])

    def apply_make(self, cells, number, after, text):
        spot = self.spot_behind(cells, after)
        self.fit(text)
        self.room(cells)
        cells.insert(spot, {"number": number, "mark": 0, "text": list(text)})
        return number

    def apply_write(self, cells, number, text):
        cell = cells[self.spot(cells, number)]
        self.fit(text)
        cell["text"] = list(text)
        return 0

    def apply_move(self, cells, number, after):
        cell = cells.pop(self.spot(cells, number))
        cells.insert(self.spot_behind(cells, after), cell)
        return 0

    def apply_drop(self, cells, number):
        cells.pop(self.spot(cells, number))
        return 0

    def apply_hide(self, cells, number, mark):
        cell = cells[self.spot(cells, number)]
        if mark != 0 and mark != 1:
            raise CannotBeDone(-18)
        cell["mark"] = mark
        return 0

    def apply_split(self, cells, number, place, new_number):
        spot = self.spot(cells, number)
        text = cells[spot]["text"]
        if place < 0 or place > len(text):
            raise CannotBeDone(-8)
        self.room(cells)
        cells.insert(spot + 1, {"number": new_number, "mark": cells[spot]["mark"], "text": text[place:]})
        cells[spot]["text"] = text[:place]
        return new_number

    def apply_join(self, cells, number):
        spot = self.spot(cells, number)
        if spot == len(cells) - 1:
            raise CannotBeDone(-9)
        gone = cells.pop(spot + 1)
        cells[spot]["text"] = cells[spot]["text"] + gone["text"]
        if len(cells[spot]["text"]) > 200:
            raise CannotBeDone(-5)
        return gone["number"]

    def apply_swap(self, cells, a, b):
        spot_a, spot_b = self.spot(cells, a), self.spot(cells, b)
        cells[spot_a], cells[spot_b] = cells[spot_b], cells[spot_a]
        return 0

    def apply_replace(self, cells, x, y):
        if [byte for byte in x + y if byte not in range(256)]:
            raise CannotBeDone(-4)
        self.fit(x)
        self.fit(y)
        if not x:
            raise CannotBeDone(-17)
        count = 0
        for cell in cells:
            count += "".join(map(chr, cell["text"])).count("".join(map(chr, x)))
            cell["text"] = self.swapped_bytes(cell["text"], x, y)
            if len(cell["text"]) > 200:
                raise CannotBeDone(-5)
        return count

    def fit(self, text):
        if [byte for byte in text if byte not in range(256)]:
            raise CannotBeDone(-4)
        if len(text) > 200:
            raise CannotBeDone(-5)

    def add(self, step):
        self.done.append(step)
        if len(self.done) > 20:
            for edit in self.done.pop(0):
                self.apply(self.base, edit)

    def edit(self, edit):
        if self.group is not None and len(self.group) == 10:
            return -10
        before = self.made()
        after = self.made()
        try:
            answer = self.apply(after, edit)
        except CannotBeDone as refusal:
            return refusal.args[0]
        if edit[0] in ("make", "split"):
            if self.number > 99:
                return -16
            self.number += 1
        if after == before:
            return -7
        if self.group is None:
            self.add([edit])
        else:
            self.group.append(edit)
        return answer

    def begin(self):
        if self.group is not None:
            return -11
        self.group = []
        return 0

    def close(self, keep):
        if self.group is None:
            return -12
        edits, self.group = self.group, None
        if keep and edits:
            self.add(edits)
        return len(edits)


class Maker:
    """Calls drawn by a seed, each with what the model answers."""

    def __init__(self, seed):
        self.draw = random.Random(seed)
        self.model = Model()
        # Some lists go with short texts of two bytes, in which much is found, some with long ones.
        self.longest = self.draw.choice((3, 8, 60, 110))
        self.wrong = self.draw.choice((0, 10, 40))

    def ahead(self):
        """Calls that use up most numbers, for so many are seldom drawn; each with the model's answer."""
        drawn = []
        for group in range(8):
            drawn.append((helper.BEGIN, self.model.begin()))
            for k in range(10):
                drawn.append((helper.new(0, []), self.model.edit(("make", self.model.number, 0, []))))
            drawn.append((helper.CANCEL, self.model.close(False)))
        return drawn

    def odd(self):
        """Whether a wrong argument is to be drawn, of 200 times as many as wrong says."""
        return self.draw.randrange(200) < self.wrong

    def number(self):
        cells = self.model.made()
        if not cells or self.odd():
            return self.draw.choice((0, -1, 50, 100, self.model.number, helper.HUGE, -helper.HUGE))
        return self.draw.choice(cells)["number"]

    def after(self):
        return 0 if self.draw.randrange(4) == 0 else self.number()

    def text(self, longest):
        if self.odd():
            return [self.draw.choice((1, 256, -1, helper.HUGE))] * self.draw.choice((1, 200, 201, 400))
        return [self.draw.choice((0, 1)) for k in range(self.draw.randrange(longest + 1))]

    def place(self, number):
        lengths = [len(cell["text"]) for cell in self.model.made() if cell["number"] == number]
        if self.odd() or not lengths:
            return self.draw.choice((-1, 201, helper.HUGE, -helper.HUGE) + tuple(length + 1 for length in lengths))
        return self.draw.randrange(lengths[0] + 1)

    def one(self):
        """A call, and the model's answer to it."""
        model = self.model
        kind = self.draw.choice((0, 0, 0, 1, 2, 3, 4, 5, 5, 6, 7, 8, 8, 9, 10, 11))
        if kind == 0:
            after, text = self.after(), self.text(self.longest)
            return helper.new(after, text), model.edit(("make", model.number, after, text))
        if kind == 1:
            number, text = self.number(), self.text(self.longest)
            return helper.write(number, text), model.edit(("write", number, text))
        if kind == 2:
            number, after = self.number(), self.after()
            return helper.move(number, after), model.edit(("move", number, after))
        if kind == 3:
            number = self.number()
            return helper.drop(number), model.edit(("drop", number))
        if kind == 4:
            number, mark = self.number(), 2 if self.odd() else self.draw.randrange(2)
            return helper.hide(number, mark), model.edit(("hide", number, mark))
        if kind == 5:
            number = self.number()
            place = self.place(number)
            return helper.split(number, place), model.edit(("split", number, place, model.number))
        if kind == 6:
            number = self.number()
            return helper.join(number), model.edit(("join", number))
        if kind == 7:
            a, b = self.number(), self.number()
            return helper.swap(a, b), model.edit(("swap", a, b))
        if kind == 8:
            x, y = self.text(3), self.text(3)
            return helper.replace(x, y), model.edit(("replace", x, y))
        if kind == 9:
            return helper.BEGIN, model.begin()
        if kind == 10:
            return helper.END, model.close(True)
        return helper.CANCEL, model.close(False)


def draw_list(seed):
    """A list of at most 200 calls and 17000 numbers, and the model's answers."""
    maker = Maker(seed)
    drawn = maker.ahead() if seed % 3 == 0 else []
    calls = [number for call, answer in drawn for number in call]
    expected = [answer for call, answer in drawn]
    while len(expected) < 200:
        call, answer = maker.one()
        if len(calls) + len(call) > 17000:
            break
        calls += call
        expected.append(answer)
    return calls, expected


class AgainstTheModel(unittest.TestCase):
    def test_many_lists_of_calls(self):
        seen = {}
        for seed in range(60):
            calls, expected = draw_list(seed)
            self.assertEqual(answers(calls)[1::2], expected, seed)
            seen.update((min(answer, 0), True) for answer in expected)
        # Else the lists that were drawn would say less than they seem to.
        every = [0, -1, -2, -4, -5, -6, -7, -8, -9, -10, -11, -12, -16, -17, -18]
        self.assertEqual(sorted(seen, reverse=True), every)


if __name__ == "__main__":
    unittest.main()
