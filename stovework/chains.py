"""Chains and rings of points along arcs. An arc (p, q, lag) asks that the point q comes at least lag turns behind p."""


# What counts between points, by pairs (p, q); a pair without an arc lacks.
def greatest_lags(arcs):
    lags = {}
    for p, q, lag in arcs:
        lags[(p, q)] = max(lag, lags.get((p, q), lag))
    return lags


def lag_between(arcs, p, q):
    return greatest_lags(arcs).get((p, q))


def chain_total(arcs, chain):
    return total_by(greatest_lags(arcs), chain)


def total_by(lags, chain):
    total = 0
    for p, q in zip(chain, chain[1:]):
        if (p, q) not in lags:
            return None
        total += lags[(p, q)]
    return total


def ring_total(arcs, ring):
    if len(ring) == 0:
        return None
    return chain_total(arcs, ring + [ring[0]])


def earliest_times(points, arcs):
    times = [0 for point in range(points)]
    ahead = [None for point in range(points)]
    raised = None
    for turn in range(points):
        raised = raise_times(times, ahead, arcs)
        if raised is None:
            break
    # A chain without a point twice has fewer arcs than there are points: a time that still rises comes of a ring.
    if raised is not None:
        return (None, None, ring_behind(ahead, raised))
    return (times, [chain_to(ahead, point) for point in range(points)], None)


# Raises each time that an arc asks to be later, and keeps in ahead the point that asked last.
# Tells one of the points whose times it raised, None where all arcs hold already.
def raise_times(times, ahead, arcs):
    raised = None
    for p, q, lag in arcs:
        if times[p] + lag > times[q]:
            times[q] = times[p] + lag
            ahead[q] = p
            raised = q
    return raised


def chain_to(ahead, point):
    chain = [point]
    while ahead[chain[-1]] is not None:
        chain.append(ahead[chain[-1]])
    return list(reversed(chain))


# After as many steps back as there are points one stands within the ring, wherever one began.
def ring_behind(ahead, point):
    first = point
    for step in range(len(ahead)):
        first = ahead[first]
    ring = [first]
    while ahead[ring[-1]] != first:
        ring.append(ahead[ring[-1]])
    return list(reversed(ring))


def tail_chains(points, arcs):
    turned = [(q, p, lag) for p, q, lag in arcs]
    told = earliest_times(points, turned)
    if told[0] is None:
        return (None, None)
    return (told[0], [list(reversed(chain)) for chain in told[1]])
