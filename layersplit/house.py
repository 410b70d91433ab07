"""The house: its layers, its trials, its guests, and the deeds that it is told."""

from layersplit.checks import check_deed, check_guest, check_house, check_known, check_marks, check_place
from layersplit.dealing import dealt
from layersplit.places import place_of
from layersplit.points import point_of
from layersplit.rules import holds
from layersplit.tables import Table

# The owner of the held places; no word is empty, so it is no trial's arm.
HELD = ("", "")


class Layer:
    def __init__(self, slope, many):
        self.slope = slope
        # Its owners are HELD and the tuples (trial, arm).
        self.table = Table(many)
        # The tuple (trial, arm) by the guest who is in it: one guest has one at most.
        self.inside = {}


class Trial:
    def __init__(self, home, arms, rule, shuts):
        self.home = home
        self.arms = arms
        self.rule = rule
        self.shuts = shuts
        self.paused = False
        self.closed = False
        # True by each guest who is barred.
        self.barred = {}


class House:
    def __init__(self, prime, salt):
        check_house(prime, salt)
        self.own_prime = prime
        self.own_salt = salt
        self.layer_named = {}
        self.trial_named = {}
        # The tuples (trial, arm) that a guest came into, by the guest, in that order.
        self.came_into = {}
        self.deeds = []

    def do(self, deed):
        check_deed(deed, self.own_prime, self.layer_named, self.trial_named)
        answer = self.done(deed)
        # Behind the deed, which may still be refused where there is no room.
        self.deeds.append(deed)
        return answer

    def done(self, deed):
        kind = deed[0]
        if kind == "layer":
            return self.do_layer(deed[1], deed[2])
        if kind == "trial":
            return self.do_trial(deed[1], Trial(deed[2], deed[3], deed[4], deed[5]))
        if kind == "share":
            return self.do_share(deed[1], deed[2])
        if kind == "deal":
            return self.do_share(deed[1], dealt(deed[2], deed[3]))
        if kind == "hold":
            return self.do_hold(deed[1], deed[2])
        if kind == "pause":
            return self.do_pause(deed[1], True)
        if kind == "go":
            return self.do_pause(deed[1], False)
        if kind == "close":
            return self.do_close(deed[1])
        if kind == "bar":
            return self.do_bar(deed[1], deed[2])
        return self.do_visit(deed[1], deed[2])

    def do_layer(self, name, slope):
        self.layer_named[name] = Layer(slope, self.own_prime)
        return []

    def do_trial(self, name, trial):
        self.trial_named[name] = trial
        return []

    def do_share(self, name, numbers):
        trial = self.trial_named[name]
        layer = self.layer_named[trial.home]
        back = layer.table.told([((name, arm), number) for arm, number in zip(trial.arms, numbers)])
        # Who the places were of is asked by the place alone, so that it is all
        # one whether a place was taken again at once.
        guests = [guest for guest in layer.inside if self.place_in(layer, guest) in back]
        return self.put_out(layer, guests)

    def do_hold(self, name, number):
        self.layer_named[name].table.told([(HELD, number)])
        return []

    def do_pause(self, name, paused):
        trial = self.trial_named[name]
        trial.paused = paused
        return []

    def do_close(self, name):
        trial = self.trial_named[name]
        trial.closed = True
        return self.do_share(name, [0] * len(trial.arms))

    def do_bar(self, guest, name):
        trial = self.trial_named[name]
        layer = self.layer_named[trial.home]
        trial.barred[guest] = True
        if guest in layer.inside and layer.inside[guest][0] == name:
            return self.put_out(layer, [guest])
        return []

    def do_visit(self, guest, marks):
        answer = self.after_visit(guest, marks)
        for name, trial, arm in answer:
            layer = self.layer_named[name]
            if guest not in layer.inside:
                layer.inside[guest] = (trial, arm)
                self.came_into[guest] = self.came_into.get(guest, []) + [(trial, arm)]
        return answer

    def put_out(self, layer, guests):
        out = []
        for guest in guests:
            seat = layer.inside.pop(guest)
            out.append((guest,) + seat)
        return sorted(out)

    def after_visit(self, guest, marks):
        # A trial of a layer ahead counts among those that shut others out, also
        # where the guest comes into it by this same visit.
        been = [seat[0] for seat in self.came_into.get(guest, [])]
        answer = []
        for name, layer in self.layer_named.items():
            seat = layer.inside.get(guest)
            if seat is None:
                seat = self.seat_for(layer, guest, marks, been)
            if seat is not None:
                been.append(seat[0])
                answer.append((name,) + seat)
        return answer

    def seat_for(self, layer, guest, marks, been):
        owner = layer.table.owner_of(self.place_in(layer, guest))
        if owner is None or owner == HELD:
            return None
        trial = self.trial_named[owner[0]]
        if trial.paused or guest in trial.barred or not holds(trial.rule, marks):
            return None
        if any([name in been for name in trial.shuts]):
            return None
        return owner

    def place_in(self, layer, guest):
        return place_of(self.own_prime, layer.slope, point_of(self.own_prime, self.own_salt, guest))

    def place(self, layer, guest):
        check_known(layer, self.layer_named)
        check_guest(guest)
        return self.place_in(self.layer_named[layer], guest)

    def owner(self, layer, place):
        check_known(layer, self.layer_named)
        check_place(place, self.own_prime)
        return self.layer_named[layer].table.owner_of(place)

    def places_in(self, trial, arm):
        return self.layer_named[self.trial_named[trial].home].table.places_of((trial, arm))

    def places(self, trial, arm):
        check_known(trial, self.trial_named)
        check_known(arm, self.trial_named[trial].arms)
        return self.places_in(trial, arm)

    def shares(self, trial):
        check_known(trial, self.trial_named)
        return tuple([len(self.places_in(trial, arm)) for arm in self.trial_named[trial].arms])

    def stand(self, guest):
        check_guest(guest)
        standing = [(name, layer.inside.get(guest)) for name, layer in self.layer_named.items()]
        return [(name,) + seat for name, seat in standing if seat is not None]

    def ever(self, guest):
        check_guest(guest)
        return list(self.came_into.get(guest, []))

    def would(self, guest, marks):
        check_guest(guest)
        check_marks(marks)
        return self.after_visit(guest, marks)

    def who(self, trial):
        check_known(trial, self.trial_named)
        inside = self.layer_named[self.trial_named[trial].home].inside
        return sorted([(guest, seat[1]) for guest, seat in inside.items() if seat[0] == trial])

    def layers(self):
        return [(name, layer.slope) for name, layer in self.layer_named.items()]

    def trials(self):
        return list(self.trial_named)

    def layer_of(self, trial):
        check_known(trial, self.trial_named)
        return self.trial_named[trial].home

    def book(self):
        return list(self.deeds)

    def prime(self):
        return self.own_prime

    def salt(self):
        return self.own_salt
