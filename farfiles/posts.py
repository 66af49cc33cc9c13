"""The letters that wait between the houses."""


class Post:
    """Letters, each with a number, from a house, to a house, with a text."""

    def __init__(self):
        self.waiting = {}
        # For each two houses the texts that wait between them, by number.
        self.lanes = {}
        self.sent = 0

    def send(self, source, target, text):
        """Send a letter, unless one just like it waits."""
        lane = self.lanes.setdefault((source, target), {})
        if not any([waiting == text for waiting in lane.values()]):
            self._write(source, target, text)

    def double(self, number):
        """Send another letter like this one."""
        source, target, text = self.waiting[number]
        self._write(source, target, text)

    def taken(self, number):
        """The letter, which waits no more."""
        source, target, text = self.waiting[number]
        del self.waiting[number]
        del self.lanes[(source, target)][number]
        return (source, target, text)

    def _write(self, source, target, text):
        self.waiting[self.sent] = (source, target, text)
        self.lanes[(source, target)][self.sent] = text
        self.sent += 1
