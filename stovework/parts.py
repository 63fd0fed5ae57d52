"""Parts of goods, and parts of parts: a dict from a name to a dict from a name to True. Rings may be in it."""


def all_inside(parts, good):
    return sorted(names_ahead(parts, good))


def chain_down(parts, good, goals):
    ahead = names_ahead(parts, good)
    # The good itself comes first here, so it is told alone where it is a goal.
    found = [name for name in ahead if name in goals]
    if len(found) == 0:
        return None
    return chain_to(ahead, found[0])


# A dict from each name in the good to the one by which it was come to first; the good's own is None.
def names_ahead(parts, good):
    ahead = {good: None}
    waiting = [good]
    while len(waiting) > 0:
        name = waiting.pop()
        for part in parts.get(name, {}):
            if part not in ahead:
                ahead[part] = name
                waiting.append(part)
    return ahead


def chain_to(ahead, goal):
    chain = []
    name = goal
    while name is not None:
        chain.append(name)
        name = ahead[name]
    return list(reversed(chain))
