"""Stand-ins of goods, and their stand-ins: a dict from a name to a dict from a name to a fraction above 0."""

from stovework.ratios import fraction, product


def ways_out(stands, good):
    pairs = [([good], fraction(1))]
    reached = {good: True}
    place = 0
    # The pairs lie in the order that is asked for, and so do those that are laid behind them, as each one's
    # stand-ins are walked sorted. So the first chain that reaches a name is the one that is told.
    while place < len(pairs):
        chain = pairs[place][0]
        ratio = pairs[place][1]
        others = stands.get(chain[-1], {})
        for name in sorted(others):
            if name not in reached:
                reached[name] = True
                pairs.append((chain + [name], product(ratio, others[name])))
        place += 1
    return pairs
