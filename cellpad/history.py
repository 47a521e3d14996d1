"""The steps that are remembered, and the document at each of their positions."""

from cellpad.edits import do_edits

MOST_DONE = 20


class History:
    """The history's steps, done and undone, each a tuple of edits.

    The document at each position is kept, the base at 0, so that no position has to be made again.
    """

    def __init__(self):
        self.steps = []
        self.documents = [()]
        self.position = 0
        self.forgotten = 0

    def present(self):
        """The document at the position."""
        return self.documents[self.position]

    def count_undone(self):
        return len(self.steps) - self.position

    def has_position(self, position):
        return 0 <= position <= len(self.steps)

    def go_to(self, position):
        """Have as many steps done as the position says, and all others undone."""
        self.position = position

    def add_step(self, edits, document):
        """Add a step of these edits, which make the document of the present one."""
        self.steps = self.steps[:self.position] + [tuple(edits)]
        self.documents = self.documents[:self.position + 1] + [document]
        self.position += 1
        if self.position > MOST_DONE:
            self.forget_step()

    def forget_step(self):
        self.steps = self.steps[1:]
        self.documents = self.documents[1:]
        self.position -= 1
        self.forgotten += 1

    def strike_step(self, index):
        """Take this done step out, with all undone ones; if that can't be done, change nothing and give False."""
        later = self.steps[index + 1:self.position]
        # What stands ahead of the step stays, so only what it and the later ones made is made anew.
        documents = self.documents[:index + 1]
        for edits in later:
            document = do_edits(documents[-1], edits)
            if document is None:
                return False
            documents.append(document)
        self.steps = self.steps[:index] + later
        self.documents = documents
        self.position = len(self.steps)
        return True
