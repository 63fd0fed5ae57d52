"""Earliest times that are kept up while arcs come in, one by one. With turned arcs they are the tails."""

from stovework.chains import earliest_times, greatest_lags


# The times of the points, for each point the one ahead of it by which its time came, and for each point the pairs
# (q, lag) of the arcs from it. The ring is None, or a ring with a total above 0: then the rest tells nothing.
class Tide:
    def __init__(self, times, ahead, outs, ring):
        self.times = times
        self.ahead = ahead
        self.outs = outs
        self.ring = ring


def first_tide(points, arcs):
    told = earliest_times(points, arcs)
    if told[2] is not None:
        return Tide(None, None, None, told[2])
    outs = [[] for point in range(points)]
    for pair, lag in greatest_lags(arcs).items():
        outs[pair[0]].append((pair[1], lag))
    ahead = [chain[-2] if len(chain) > 1 else None for chain in told[1]]
    return Tide(told[0], ahead, outs, None)


# The tide with one more arc; the old one stays as it is.
def risen(tide, p, q, lag):
    if tide.ring is not None:
        return tide
    # The arcs of all other points are shared with the old tide: nobody changes them.
    outs = list(tide.outs)
    outs[p] = outs[p] + [(q, lag)]
    fresh = Tide(list(tide.times), list(tide.ahead), outs, None)
    if fresh.times[p] + lag > fresh.times[q]:
        rise_behind(fresh, p, q, lag)
    return fresh


# Each ring with a total above 0 goes along the new arc: just then the time of the arc's own first point rises.
def rise_behind(tide, p, q, lag):
    times = tide.times
    times[q] = times[p] + lag
    tide.ahead[q] = p
    waiting = [q]
    place = 0
    while place < len(waiting):
        point = waiting[place]
        place += 1
        for other, turns in tide.outs[point]:
            if times[point] + turns > times[other]:
                times[other] = times[point] + turns
                tide.ahead[other] = point
                waiting.append(other)
                if other == p:
                    tide.ring = ring_from(tide.ahead, p, q)
                    return


# The ring that the arc from p to q closes: the points from q on to p.
def ring_from(ahead, p, q):
    ring = [p]
    while ring[-1] != q:
        ring.append(ahead[ring[-1]])
    return list(reversed(ring))
