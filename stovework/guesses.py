"""Guesses: the runs of a case by its earliest times, with a way guessed for each task that has none picked."""

from stovework.crowds import least_crowds
from stovework.looks import spans_of
from stovework.plans import runs_meet


# A tuple (plan, tasks): a plan that obeys the case and ends no later than it must, and []; or None and the tasks by
# which the guess does not fit.
def guess(measures, look):
    spans = spans_of(measures, look)
    picks = guessed_picks(measures, look.case[0], spans)
    if None in picks:
        return (None, [picks.index(None)])
    found = least_crowds(measures, picks, spans)
    if found != []:
        return (None, found[0])
    runs = [(span[0], span[1], pick) for span, pick in zip(spans, picks)]
    return ((runs, look.heads.times[2 * len(runs):]), [])


# None stays with a task whose span is too short or too long for each of its ways.
def guessed_picks(measures, picks, spans):
    guessed = list(picks)
    for i, ways in enumerate(measures.net.tasks):
        if len(ways) == 1:
            guessed[i] = 0
    for i in range(len(guessed)):
        if guessed[i] is None:
            guessed[i] = guessed_way(measures, guessed, spans, i)
    return guessed


# The first way that suits the span and hinders none of the tasks whose ways are told; else the first that suits it.
def guessed_way(measures, picks, spans, i):
    length = spans[i][1] - spans[i][0]
    suiting = [k for k, way in enumerate(measures.net.tasks[i]) if way[0] <= length <= way[1]]
    for k in suiting:
        trial = list(picks)
        trial[i] = k
        if not is_hindered(measures, trial, spans, i):
            return k
    return suiting[0] if suiting != [] else None


def is_hindered(measures, picks, spans, i):
    for j in range(len(spans)):
        if j != i and picks[j] is not None and runs_meet(spans[i], spans[j]) and measures.hinders(picks, i, j):
            return True
    return False
