"""A walk along a list, step by step."""


class Walk:
    """Where one stands in a list; the list itself is never changed."""

    def __init__(self, steps, ending):
        self.steps = steps
        self.ending = ending
        self.place = 0

    def peek(self):
        """The step ahead, or the ending behind the last one."""
        if self.place < len(self.steps):
            return self.steps[self.place]
        return self.ending

    def take(self):
        step = self.peek()
        self.place += 1
        return step

    def take_many(self, amount):
        begin = self.place
        self.place += amount
        return self.steps[begin:self.place]
