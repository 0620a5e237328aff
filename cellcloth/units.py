"""Unit propagation, as proofs are looked at by it (points 9.2 and 9.3)."""


class Units:
    """Clauses, and what has to be taken for them by unit propagation.

    Each clause of two or more integers is watched by two of them, which stand first in it. Clauses that come
    between `begin` and `end` are forgotten at the end.
    """

    def __init__(self, clauses):
        self.taken = {}
        self.order = []
        self.done = 0
        self.clashed = False
        self.lasting = {}
        self.passing = {}
        self.mark = 0
        self.clashed_before = False
        for clause in clauses:
            self._put(clause, self.lasting)

    def begin(self):
        """Begins with clauses that are forgotten again."""
        self.mark = len(self.order)
        self.clashed_before = self.clashed

    def end(self):
        """Forgets the clauses that came since the beginning."""
        self._back_to(self.mark)
        self.clashed = self.clashed_before
        self.passing = {}

    def put(self, clause):
        """Puts in a clause that is forgotten at the end."""
        self._put(clause, self.passing)

    def proves(self, proof):
        """Returns whether a list of clauses, put in one after the other, is a proof."""
        if not proof or proof[-1] or any([0 in clause for clause in proof]):
            return False
        for clause in proof:
            if not self.follows(clause):
                return False
            self.put(clause)
        return True

    def follows(self, clause):
        """Returns whether a clause follows plainly."""
        if self.clashed:
            return True
        mark = len(self.order)
        clash = False
        for integer in clause:
            if integer in self.taken:
                clash = True
                break
            self._take(-integer)
        clash = clash or self._spread()
        self._back_to(mark)
        return clash

    def _put(self, clause, watched):
        if self.clashed or any([integer in self.taken for integer in clause]):
            return
        members = {integer: True for integer in clause}
        free = [integer for integer in members if -integer not in self.taken]
        if len(free) > 1:
            # What is taken now stays as long as this clause, so the integers opposite to it can go.
            watched.setdefault(free[0], []).append(free)
            watched.setdefault(free[1], []).append(free)
        elif free:
            self._take(free[0])
            self.clashed = self._spread()
        else:
            self.clashed = True

    def _take(self, integer):
        if integer not in self.taken:
            self.taken[integer] = True
            self.order.append(integer)

    def _back_to(self, mark):
        for integer in self.order[mark:]:
            del self.taken[integer]
        del self.order[mark:]
        self.done = mark

    def _spread(self):
        """Takes what has to be taken; returns whether this ends in a clash."""
        while self.done < len(self.order):
            against = -self.order[self.done]
            self.done += 1
            if self._clash_among(self.lasting, against) or self._clash_among(self.passing, against):
                return True
        return False

    def _clash_among(self, watched, against):
        """Looks at the clauses that watch an integer whose opposite is taken; returns whether one of them clashes."""
        if against not in watched:
            return False
        taken = self.taken
        watching = watched[against]
        staying = []
        watched[against] = staying
        for at, clause in enumerate(watching):
            if clause[0] == against:
                clause[0] = clause[1]
                clause[1] = against
            first = clause[0]
            if first in taken:
                staying.append(clause)
                continue
            for k in range(2, len(clause)):
                other = clause[k]
                if -other not in taken:
                    clause[1] = other
                    clause[k] = against
                    watched.setdefault(other, []).append(clause)
                    break
            else:
                staying.append(clause)
                if -first in taken:
                    staying.extend(watching[at + 1:])
                    return True
                taken[first] = True
                self.order.append(first)
        return False
