"""Goes through the one list in which the calls stand."""


class Reader:
    def __init__(self, numbers):
        self.numbers = numbers
        self.position = 0

    def at_end(self):
        return self.position >= len(self.numbers)

    def take(self):
        number = self.numbers[self.position]
        self.position += 1
        return number

    def take_row(self):
        length = self.take()
        start = self.position
        self.position += length
        return self.numbers[start:self.position]
