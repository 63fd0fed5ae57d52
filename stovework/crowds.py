"""The least crowds of spans, tuples (begin, end): tasks that meet two by two though they clash, as few as may be."""

from stovework.plans import goes_on, runs_meet


# Rising lists of equally many tasks; [] where there is no crowd. A crowd of a tool with the fewest tasks of all is a
# least one: by whatever tool some of its tasks clashed, they would be found as a lesser one.
def least_crowds(measures, picks, spans):
    pairs = crowded_pairs(measures, picks, spans)
    if pairs != []:
        return pairs
    found = {}
    for turn in sorted(set([span[0] for span in spans])):
        some = [i for i in range(len(spans)) if goes_on(spans[i], turn)]
        for tool in measures.wants:
            tasks = greatest_users(measures, picks, some, tool)
            if tasks is not None:
                found[tuple(tasks)] = True
    fewest = min([len(tasks) for tasks in found], default=0)
    return [list(tasks) for tasks in found if len(tasks) == fewest]


def crowded_pairs(measures, picks, spans):
    pairs = []
    for i in range(len(spans)):
        for j in range(i + 1, len(spans)):
            if runs_meet(spans[i], spans[j]) and measures.hinders(picks, i, j):
                pairs.append([i, j])
    return pairs


# As few of the tasks as want more of the tool than there is, None where all of them don't.
def greatest_users(measures, picks, some, tool):
    told = measures.wants[tool]
    wants = [told[i][picks[i]] for i in some]
    left = measures.net.tools[tool]
    if sum(wants) <= left:
        return None
    tasks = []
    # The greatest wants come first: by them the tool runs out with the fewest tasks.
    for less, i in sorted([(-want, i) for want, i in zip(wants, some)]):
        left += less
        tasks.append(i)
        if left < 0:
            break
    return sorted(tasks)
