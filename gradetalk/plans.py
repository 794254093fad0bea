"""The parts of a saying and of facts, as numbered steps, and what is known of them."""

from gradetalk.places import always_at, never_at, sides_of

# The number of the step that is never, whether it is a part or not.
NEVER = 0


class Plan:
    """The steps by which a saying and facts are worked out.

    A step is a tuple (kind, first, second) with the numbers of the steps of its two pieces, which
    come ahead of it. A denied x stands there as x then never. Steps without pieces have the kinds
    "name", "never" and "always". What is known of the steps is a list with one item for each: its
    worth in a shape, or None. The parts of the others are steps, too, but nothing is asked of them.
    """

    def __init__(self, saying, facts, others=()):
        told = [*facts, *others, saying]
        letters = [name for one in told for name in one.names]
        self.letters = sorted(set(letters))
        self.numbers = {"0": NEVER}
        self.steps = [("never", NEVER, NEVER)]
        for one in told:
            for part in one.parts():
                self._take(part)
        self.given = [self.numbers[str(fact)] for fact in facts]
        self.goal = self.numbers[str(saying)]

    def _take(self, part):
        text = str(part)
        if text in self.numbers:
            return
        numbers = [self.numbers[str(piece)] for piece in part.pieces]
        self.numbers[text] = len(self.steps)
        if len(numbers) == 2:
            self.steps.append((part.kind, numbers[0], numbers[1]))
        elif part.kind == "denied":
            self.steps.append(("then", numbers[0], NEVER))
        else:
            self.steps.append((part.kind, NEVER, NEVER))

    def use(self, fact, count):
        """Makes the goal a then: from both of so many times a fact, at least once, to what was the goal.

        This is done by steps alone, as the saying itself may be larger than a saying may be.
        """
        number = self.numbers[str(fact)]
        last = number
        for _ in range(count - 1):
            self.steps.append(("both", last, number))
            last = len(self.steps) - 1
        self.steps.append(("then", last, self.goal))
        self.goal = len(self.steps) - 1

    def below(self, numbers):
        """The numbers, ascending, of all steps by which those with some numbers are worked out."""
        found = {number: True for number in numbers}
        for number in reversed(range(len(self.steps))):
            kind, first, second = self.steps[number]
            if number in found and kind not in ("name", "never", "always"):
                found[first] = True
                found[second] = True
        return sorted(found)

    def start(self, words):
        """What is known in a shape before any name is placed."""
        known = [None] * len(self.steps)
        for number, step in enumerate(self.steps):
            if step[0] == "never":
                known[number] = never_at(words, len(self.letters))
            elif step[0] == "always":
                known[number] = always_at(words)
        self._fill(known, words, 0)
        return known

    def with_worth(self, known, number, worth, words):
        """What is known when the worth of one more step is told."""
        more = list(known)
        more[number] = worth
        self._fill(more, words, number + 1)
        return more

    def sides(self, known, number, words):
        """The sides of the step with a number; none while one of its pieces is not known."""
        kind, first, second = self.steps[number]
        if kind in ("name", "never", "always") or known[first] is None or known[second] is None:
            return []
        return sides_of(kind, known[first], known[second], words)

    def _fill(self, known, words, start):
        """Puts in the worths, from a number on, of the steps that need not be split."""
        for number in range(start, len(self.steps)):
            if known[number] is None:
                sides = self.sides(known, number, words)
                if len(sides) == 1:
                    known[number] = sides[0][1]
