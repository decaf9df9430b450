"""The steps that two ends may do, and how few of them must have been missed when so many were caught.

A spot is a tuple of both ends' places. Steps are a dict from each spot to the steps from there, tuples (side, sort,
spot). A layer is a dict from the spots at which both may be, when so many were caught, to a least number of missed
steps; layers are a list of these, by how many were caught.
"""


def first_spot(ends):
    """Where both ends begin."""
    return ends[0][0][0], ends[1][0][0]


def all_spots(ends):
    """Each place of the one end with each of the other one's."""
    return [(place, other) for place in ends[0][0] for other in ends[1][0]]


def rows_from(end, place, deed):
    """What an end may say, or hear, from a place: tuples (sort, to)."""
    return [(sort, to) for begin, word, sort, to in end[1] if begin == place and word == deed]


def pairs_of(said, heard):
    """What is said by one row and heard by another one: tuples (sort, sayer's place, hearer's place)."""
    return [(sort, to, other) for sort, to in said for heard_sort, other in heard if sort == heard_sort]


def steps_from(ends, spot):
    """The steps from a spot."""
    one, other = ends
    steps = []
    for sort, to, behind in pairs_of(rows_from(one, spot[0], "says"), rows_from(other, spot[1], "hears")):
        steps.append((0, sort, (to, behind)))
    for sort, to, behind in pairs_of(rows_from(other, spot[1], "says"), rows_from(one, spot[0], "hears")):
        steps.append((1, sort, (behind, to)))
    return steps


def steps_of(ends):
    """The steps from each spot."""
    return {spot: steps_from(ends, spot) for spot in all_spots(ends)}


def turned(steps):
    """The steps gone backward: to each spot, in the stead of from it."""
    back = {spot: [] for spot in steps}
    for spot in steps:
        for side, sort, to in steps[spot]:
            back[to].append((side, sort, spot))
    return back


def missed_on(steps, layer):
    """A layer with all spots that are come to from its own by missed steps, too."""
    found = dict(layer)
    many = min(list(layer.values()), default=0)
    # Spots with so many missed steps are all known when those with fewer were gone on from.
    while many <= max(list(found.values()), default=-1):
        now = [spot for spot in found if found[spot] == many]
        for spot in now:
            for _, _, to in steps[spot]:
                if found.get(to, many + 2) > many + 1:
                    found[to] = many + 1
        many += 1
    return found


def caught_on(steps, layer, caught):
    """The spots that are come to from those of a layer by the next caught step."""
    found = {}
    for spot in layer:
        for side, sort, to in steps[spot]:
            if (side, sort) == caught:
                found[to] = min(layer[spot], found.get(to, layer[spot]))
    return found


def layers_from(steps, layer, catch):
    """The layers from the first one on, behind each caught step the next one; they end where one can't be."""
    layers = [missed_on(steps, layer)]
    for caught in catch:
        behind = caught_on(steps, layers[-1], caught)
        if not behind:
            break
        layers.append(missed_on(steps, behind))
    return layers


def layers_to(ends, steps, catch):
    """The layers of the least numbers missed from each spot on, till all was caught."""
    last = {spot: 0 for spot in all_spots(ends)}
    return layers_from(turned(steps), last, catch[::-1])[::-1]
