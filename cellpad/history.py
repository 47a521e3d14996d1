"""The steps that are remembered, and the document at each of their positions."""

MOST_DONE = 20


class History:
    """The history's steps, done and undone, each a tuple of edits.

    The document at each position is kept, the base at 0, so that no position has to be made again.
    """

    def __init__(self):
        self.steps = []
        self.documents = [()]
        self.position = 0
        self.forgotten = 0

    def present(self):
        """The document at the position."""
        return self.documents[self.position]

    def add_step(self, edits, document):
        """Add a step of these edits, which make the document of the present one."""
        self.steps = self.steps[:self.position] + [tuple(edits)]
        self.documents = self.documents[:self.position + 1] + [document]
        self.position += 1
        if self.position > MOST_DONE:
            self.forget_step()

    def forget_step(self):
        self.steps = self.steps[1:]
        self.documents = self.documents[1:]
        self.position -= 1
        self.forgotten += 1
