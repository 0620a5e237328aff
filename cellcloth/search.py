"""The search for bits that keep clauses, which learns a clause from each clash."""

from cellcloth.recent import Recent

FIRST_STRETCH = 50
FIRST_ROOM = 2000
MORE_ROOM = 500


class Search:
    """A search over the variables from 1 to `many`.

    Lists over integers have the place of a negative one counted from their end. `held` tells 1 for an integer
    that is taken and -1 for its opposite; `levels` and `reasons` tell of integers that are taken how many guesses
    were made by then, and the clause for which it had to be taken. Each clause is watched by its first two integers.
    A bold search guesses that a variable is 1, another one that it is what it was before.
    """

    def __init__(self, many, clauses, is_bold=False):
        self.many = many
        self.is_bold = is_bold
        self.held = [0] * (2 * many + 1)
        self.levels = [0] * (2 * many + 1)
        self.reasons = [None] * (2 * many + 1)
        self.seen = [False] * (2 * many + 1)
        self.watchers = [[] for _ in range(2 * many + 1)]
        self.order = []
        self.done = 0
        self.marks = []
        self.recent = Recent(many)
        self.liked = [-1] * (many + 1)
        self.given = []
        self.learned = []
        self.proof = []
        self.clashed = False
        self.stretches = 1
        self.left = FIRST_STRETCH
        self.room = FIRST_ROOM
        for clause in clauses:
            self._give(clause)

    def bits(self):
        """Returns the bits that were found, one for each variable."""
        return [1 if self.held[variable] == 1 else 0 for variable in range(1, self.many + 1)]

    def finds(self, most=None):
        """Returns whether some bits keep all clauses; if not, `proof` shows it.

        Returns None if there were more clashes than `most` by then; called again, it goes on from there.
        """
        while True:
            clash = self._spread()
            if self.clashed or clash is not None and not self.marks:
                self.proof.append([])
                return False
            if clash is not None:
                self._learn(clash)
                self.left -= 1
            elif most is not None and len(self.proof) > most:
                return None
            elif self.left <= 0 and self.marks:
                self.stretches += 1
                self.left = FIRST_STRETCH * _stretch(self.stretches)
                self._back_to(0)
            elif len(self.learned) > self.room and not self.marks:
                self.room += MORE_ROOM
                self._forget()
            elif not self._guess():
                return True

    def _give(self, clause):
        members = {integer: True for integer in clause}
        integers = list(members)
        if any([-integer in members for integer in integers]):
            return
        if len(integers) > 1:
            self.given.append(integers)
            self._watch(integers)
        elif not integers or self.held[integers[0]] < 0:
            self.clashed = True
        elif self.held[integers[0]] == 0:
            self._take(integers[0], None)

    def _watch(self, clause):
        self.watchers[clause[0]].append(clause)
        self.watchers[clause[1]].append(clause)

    def _take(self, integer, reason):
        self.held[integer] = 1
        self.held[-integer] = -1
        self.levels[integer] = len(self.marks)
        self.reasons[integer] = reason
        self.order.append(integer)

    def _guess(self):
        """Takes one integer more; returns whether there is one."""
        variable = self.recent.free(self.held)
        if variable == 0:
            return False
        self.marks.append(len(self.order))
        self._take(variable if self.is_bold else variable * self.liked[variable], None)
        return True

    def _back_to(self, level):
        if level >= len(self.marks):
            return
        mark = self.marks[level]
        for integer in self.order[mark:]:
            variable = abs(integer)
            self.held[integer] = 0
            self.held[-integer] = 0
            self.liked[variable] = 1 if integer > 0 else -1
            self.recent.freed(variable)
        del self.order[mark:]
        del self.marks[level:]
        self.done = mark

    def _spread(self):
        """Takes what has to be taken; returns a clause that cannot be kept, or None."""
        while self.done < len(self.order):
            against = -self.order[self.done]
            self.done += 1
            clash = self._clash_at(against)
            if clash is not None:
                return clash
        return None

    def _clash_at(self, against):
        """Looks at the clauses that watch an integer whose opposite is taken; returns one that clashes, or None."""
        held = self.held
        watchers = self.watchers
        watching = watchers[against]
        staying = []
        watchers[against] = staying
        for at, clause in enumerate(watching):
            first = clause[0]
            if first == against:
                first = clause[1]
                clause[0] = first
                clause[1] = against
            if held[first] > 0:
                staying.append(clause)
                continue
            for k in range(2, len(clause)):
                other = clause[k]
                if held[other] >= 0:
                    clause[1] = other
                    clause[k] = against
                    watchers[other].append(clause)
                    break
            else:
                staying.append(clause)
                if held[first] < 0:
                    staying.extend(watching[at + 1:])
                    return clause
                self._take(first, clause)
        return None

    def _learn(self, clash):
        """Learns a clause from a clash, and goes back to where it makes something known."""
        clause = self._lesson(clash)
        self.proof.append(list(clause))
        if len(clause) == 1:
            self._back_to(0)
            self._take(clause[0], None)
            return
        levels = self.levels
        latest = 1
        for at in range(2, len(clause)):
            if levels[-clause[at]] > levels[-clause[latest]]:
                latest = at
        clause[1], clause[latest] = clause[latest], clause[1]
        worth = len(set([levels[-integer] for integer in clause]))
        self._back_to(levels[-clause[1]])
        self.learned.append((worth, clause))
        self._watch(clause)
        self._take(clause[0], clause)

    def _lesson(self, clash):
        """Returns a clause with just one integer of the last level, which stands first."""
        seen = self.seen
        now = len(self.marks)
        met = []
        others = []
        many = 0
        at = len(self.order)
        reason = clash
        while reason is not None:
            for integer in reason:
                if self.held[integer] < 0 and not seen[-integer] and self.levels[-integer] > 0:
                    seen[-integer] = True
                    met.append(-integer)
                    if self.levels[-integer] == now:
                        many += 1
                    else:
                        others.append(integer)
            at -= 1
            while not seen[self.order[at]]:
                at -= 1
            many -= 1
            reason = self.reasons[self.order[at]] if many > 0 else None
        clause = [-self.order[at]] + [integer for integer in others if not self._goes_without(integer)]
        for integer in met:
            seen[integer] = False
        self.recent.bump([abs(integer) for integer in met])
        return clause

    def _goes_without(self, integer):
        """Returns whether an integer of a lesson adds nothing to the others."""
        reason = self.reasons[-integer]
        if reason is None:
            return False
        for other in reason:
            if self.held[other] < 0 and not self.seen[-other] and self.levels[-other] > 0:
                return False
        return True

    def _forget(self):
        """Forgets the half of the learned clauses that is worth less; nothing is guessed by now."""
        self.learned = sorted(self.learned)[:len(self.learned) // 2]
        for variable in range(1, self.many + 1):
            self.watchers[variable] = []
            self.watchers[-variable] = []
        for clause in self.given + [clause for _, clause in self.learned]:
            # All has been taken that has to be, so a clause is kept, or two of its integers are free.
            high = max([self.held[integer] for integer in clause])
            firsts = [integer for integer in clause if self.held[integer] == high]
            clause[:] = firsts + [integer for integer in clause if self.held[integer] != high]
            self._watch(clause)


def _stretch(number):
    """Returns how long the stretch with this number is, by Luby's sequence 1 1 2 1 1 2 4 .."""
    while True:
        length = number.bit_length()
        if number == (1 << length) - 1:
            return 1 << (length - 1)
        number -= (1 << (length - 1)) - 1
