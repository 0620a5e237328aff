"""Variables in the order in which they last had a part in a clash."""


class Recent:
    """The variables from 1 to `many` in a row, linked; those of the last clash stand last."""

    def __init__(self, many):
        self.before = [variable - 1 for variable in range(many + 1)]
        self.behind = [variable + 1 for variable in range(many + 1)]
        self.stamps = list(range(many + 1))
        self.before[0] = 0
        self.behind[many] = 0
        self.last = many
        self.stamp = many
        # No variable behind this one is free.
        self.at = many

    def free(self, held):
        """Returns the last variable that is free by a list of what is held, or 0."""
        before = self.before
        variable = self.at
        while variable != 0 and held[variable] != 0:
            variable = before[variable]
        self.at = variable
        return variable

    def freed(self, variable):
        """Notes that a variable is free again."""
        if self.stamps[variable] > self.stamps[self.at]:
            self.at = variable

    def bump(self, variables):
        """Puts variables that are not free behind all others, in the order that they have."""
        stamps = self.stamps
        for _, variable in sorted([(stamps[variable], variable) for variable in variables]):
            self._put_last(variable)

    def _put_last(self, variable):
        if variable == self.last:
            return
        before = self.before[variable]
        behind = self.behind[variable]
        if self.at == variable:
            self.at = behind
        self.behind[before] = behind
        self.before[behind] = before
        self.before[variable] = self.last
        self.behind[variable] = 0
        self.behind[self.last] = variable
        self.last = variable
        self.stamp += 1
        self.stamps[variable] = self.stamp
