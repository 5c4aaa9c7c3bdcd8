"""A window lets so many messages go at once."""

from tellroads.errors import NoNumber
from tellroads.messages import number_of


class Window:
    def __init__(self, room):
        self.room = room
        self.on_way = []
        self.row = []
        self.arrived = 0

    def put(self, message):
        self.row.append(message)
        return self.let_go()

    def done(self, number):
        numbers = [number_of(message) for message in self.on_way]
        if number not in numbers:
            raise NoNumber("no message on the way has this number")
        many = numbers.index(number) + 1
        self.on_way = self.on_way[many:]
        self.arrived = self.arrived + many
        return self.let_go()

    def widen(self, room):
        self.room = room
        return self.let_go()

    def let_go(self):
        many = self.free()
        going = self.row[:many]
        self.row = self.row[many:]
        self.on_way.extend(going)
        return going

    def again(self):
        return list(self.on_way)

    def waiting(self):
        return list(self.row)

    def came(self):
        return self.arrived

    def free(self):
        return max(0, self.room - len(self.on_way))
