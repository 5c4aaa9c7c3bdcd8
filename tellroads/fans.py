"""A fan: one teller with many roads, each to a hearer of its own."""

from tellroads.errors import NoRoad, Taken
from tellroads.hearers import Hearer, caught_up
from tellroads.roads import Road
from tellroads.tellers import Teller


class Fan:
    def __init__(self, keep):
        self.teller = Teller(keep)
        self.roads = {}
        self.hearers = {}

    def lay(self, name, size, way):
        if name in self.roads:
            raise Taken("a road has this name")
        self.roads[name] = Road(size, way)
        self.hearers[name] = Hearer()

    def close(self, name):
        self.refuse_unknown(name)
        self.roads.pop(name)
        self.hearers.pop(name)

    def refuse_unknown(self, name):
        if name not in self.roads:
            raise NoRoad("no road has this name")

    def road_of(self, name):
        self.refuse_unknown(name)
        return self.roads[name]

    def hearer_of(self, name):
        self.refuse_unknown(name)
        return self.hearers[name]

    def names(self):
        return sorted(self.roads)

    def tell(self, topic, text):
        number = self.teller.tell(topic, text)
        for road in self.roads.values():
            road.put((number, topic, text))
        return number

    def carry(self, name, many):
        return self.hearer_of(name).take_all(self.road_of(name).take(many))

    def catch_up(self, name):
        self.road_of(name).mend()
        return caught_up(self.teller, self.hearer_of(name))

    def heard(self, name):
        return self.hearer_of(name).heard()

    def lost(self, name):
        return self.hearer_of(name).lost()

    def waiting(self, name):
        return self.road_of(name).waiting()

    def lag(self, name):
        return self.teller.told() - self.hearer_of(name).expects() + 1

    def slowest(self):
        greatest = max([self.lag(name) for name in self.names()], default=0)
        return [name for name in self.names() if self.lag(name) == greatest]
