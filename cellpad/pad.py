"""What the program holds between two calls."""

from cellpad.history import History

MOST_EDITS = 10


class Pad:
    """The history, the document, the open group (None if none is open) and the next number."""

    def __init__(self):
        self.history = History()
        self.document = ()
        self.group = None
        self.next_number = 1

    def has_group(self):
        return self.group is not None

    def group_is_full(self):
        return self.has_group() and len(self.group) >= MOST_EDITS

    def take_edit(self, edit, document):
        """Keep the edit, which makes the document of the one that is there."""
        self.document = document
        if self.has_group():
            self.group.append(edit)
        else:
            self.history.add_step((edit,), document)

    def use_number(self):
        self.next_number += 1

    def begin_group(self):
        self.group = []

    def end_group(self):
        """Close the group, which is open, with its edits as a step; tells how many it had."""
        edits = self.group
        self.group = None
        # A step added would end the undone ones, and an empty group must not.
        if len(edits) > 0:
            self.history.add_step(edits, self.document)
        return len(edits)

    def go_to(self, position):
        """Have as many steps done as the position says; no group is open."""
        self.history.go_to(position)
        self.document = self.history.present()

    def strike_step(self, index):
        """Strike this done step; gives False if that can't be done. No group is open."""
        struck = self.history.strike_step(index)
        self.document = self.history.present()
        return struck

    def cancel_group(self):
        """Close the group, which is open, without its edits; tells how many it had."""
        edits = self.group
        self.group = None
        self.document = self.history.present()
        return len(edits)
