"""A road has little room: what it has no room for is left out, or cuts it."""

from tellroads.messages import number_of


class Road:
    def __init__(self, size, way):
        self.size = size
        self.way = way
        self.row = []
        self.dropped = []
        self.broken = False

    def put(self, message):
        if self.broken:
            self.leave_out([message])
            return False
        if len(self.row) < self.size:
            self.row.append(message)
            return True
        return self.put_without_room(message)

    def put_without_room(self, message):
        if self.way == "old":
            # Slices, since a road of size 0 may have no first one.
            self.leave_out(self.row[:1])
            self.row = self.row[1:] + [message]
            return True
        if self.way == "new":
            self.leave_out([message])
            return False
        self.leave_out(self.row + [message])
        self.row = []
        self.broken = True
        return False

    def leave_out(self, messages):
        self.dropped.extend([number_of(message) for message in messages])

    def take(self, many):
        # A slice up to a number below 0 would count from the end.
        taken = self.row[:max(0, many)]
        self.row = self.row[len(taken):]
        return taken

    def waiting(self):
        return list(self.row)

    def left_out(self):
        return list(self.dropped)

    def is_cut(self):
        return self.broken

    def mend(self):
        self.broken = False
