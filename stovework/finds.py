"""The shortest plan that the seeker found so far."""

from stovework.guesses import guess
from stovework.plans import length_of


# Plan and length are None as long as there is no plan.
class Find:
    def __init__(self, measures):
        self.measures = measures
        self.plan = None
        self.length = None

    # Whether a plan that keeps to this bound may be shorter. The bound is None where a ring lets no plan by.
    def could_gain(self, bound):
        return bound is not None and (self.length is None or bound < self.length)

    def take_plan(self, look):
        if look.bound is None or not self.could_gain(max(look.heads.times, default=0)):
            return
        plan = guess(self.measures, look)[0]
        if plan is not None:
            self.plan = plan
            self.length = length_of(plan)
