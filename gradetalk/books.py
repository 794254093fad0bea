"""Books: facts that hold together, and what follows from them."""

from gradetalk.checks import check_facts, check_saying
from gradetalk.deciding import follows
from gradetalk.degrees import is_whole
from gradetalk.errors import Clash, InvalidBook, NoFact
from gradetalk.sayings import never


class Book:
    """Facts in the order in which they were told; never does not follow from them."""

    def __init__(self, facts=()):
        check_facts(facts)
        if follows(never(), facts):
            raise Clash()
        self.facts = tuple(facts)
        # What the facts were ahead of each change that was not taken back.
        self.earlier = []

    def __len__(self):
        return len(self.facts)

    def holds(self, saying):
        """Whether a saying follows from the facts under all joinings."""
        check_saying(saying)
        return follows(saying, self.facts)

    def agrees(self, second):
        """Whether the facts of this book follow from those of a second one, and the other way about."""
        if not isinstance(second, Book):
            raise InvalidBook(second)
        for fact in second.facts:
            if not self.holds(fact):
                return False
        for fact in self.facts:
            if not second.holds(fact):
                return False
        return True

    def tell(self, saying):
        """Puts a saying behind the facts, and returns whether it followed from them already."""
        check_saying(saying)
        followed = follows(saying, self.facts)
        if not followed and follows(never(), [*self.facts, saying]):
            raise Clash()
        self.earlier.append(self.facts)
        self.facts = (*self.facts, saying)
        return followed

    def untell(self, number):
        """Takes the fact with a number out, and returns it."""
        if not is_whole(number) or number < 0 or number >= len(self.facts):
            raise NoFact(number)
        fact = self.facts[number]
        self.earlier.append(self.facts)
        self.facts = self.facts[:number] + self.facts[number + 1:]
        return fact

    def back(self):
        """Takes back the last change that was not taken back, and returns whether there was one."""
        if not self.earlier:
            return False
        self.facts = self.earlier.pop()
        return True
