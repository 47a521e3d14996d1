"""Reading calls out of a list of whole numbers."""

# How many whole numbers, and how many rows behind them, the call of each number has.
WHOLES = (1, 1, 2, 1, 2, 2, 1, 2, 0, 0, 0, 0, 0, 0, 1, 1, 0, 1, 1, 0, 1, 2, 1, 0)
ROWS = (1, 1, 0, 0, 0, 0, 0, 0, 2, 0, 0, 0, 0, 0, 0, 0, 0, 0, 0, 0, 0, 0, 0, 1)


class Reader:
    """Goes through the list, which it only reads."""

    def __init__(self, numbers):
        self.numbers = numbers
        self.place = 0

    def is_behind(self):
        """Whether the whole list has been read."""
        return self.place >= len(self.numbers)

    def take_whole(self):
        number = self.numbers[self.place]
        self.place += 1
        return number

    def take_row(self):
        length = self.take_whole()
        row = tuple(self.numbers[self.place:self.place + length])
        self.place += length
        return row

    def take_arguments(self, call):
        """The arguments of the call of that number, a row as a tuple."""
        arguments = []
        for k in range(WHOLES[call]):
            arguments.append(self.take_whole())
        for k in range(ROWS[call]):
            arguments.append(self.take_row())
        return tuple(arguments)
