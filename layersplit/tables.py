"""Tables of places, each of which is free or has one owner."""

from layersplit.errors import NoRoom


class Table:
    def __init__(self, many):
        self.many = many
        # The owner of each place that is not free, by the place.
        self.owners = {}
        # The places of each owner, by the owner, in the order in which they were taken.
        self.taken = {}

    def owner_of(self, place):
        return self.owners.get(place)

    def places_of(self, owner):
        return list(self.taken.get(owner, []))

    def free(self):
        return [place for place in range(self.many) if place not in self.owners]

    def told(self, wanted):
        # Asked ahead of any change, so that a refusal changes nothing: what is
        # given back is free for those who take, so the whole of it is weighed.
        more = sum([number - len(self.places_of(owner)) for owner, number in wanted])
        if more > len(self.free()):
            raise NoRoom("there are not free places enough")
        back = []
        for owner, number in wanted:
            back.extend(self.give_back(owner, number))
        for owner, number in wanted:
            self.take(owner, number)
        return back

    def give_back(self, owner, number):
        places = self.places_of(owner)
        # The place that was taken last is given back first.
        back = list(reversed(places[number:]))
        for place in back:
            self.owners.pop(place)
        self.taken[owner] = places[:number]
        return back

    def take(self, owner, number):
        places = self.places_of(owner)
        more = self.free()[:number - len(places)]
        for place in more:
            self.owners[place] = owner
        self.taken[owner] = places + more
