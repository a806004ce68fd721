"""Steps from place to place, a dict that has for each place a list of places, and rings of such steps."""


def places_that_go_on(steps):
    # Where no step leads to a place that stays, no ring goes through: what stays has a ring, or is nothing.
    places = []
    staying = list(steps)
    while len(staying) != len(places):
        places = staying
        staying = [place for place in places if steps_within(steps, place, places)]
    return places


def steps_within(steps, place, places):
    return [other for other in steps[place] if other in places]


def ring_of_steps(steps):
    places = places_that_go_on(steps)
    if not places:
        return None
    walk = []
    place = places[0]
    while place not in walk:
        walk.append(place)
        place = steps_within(steps, place, places)[0]
    # The walk may have come into the ring from outside of it.
    return walk[walk.index(place):]
