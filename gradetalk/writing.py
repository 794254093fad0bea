"""Writing papers that show that a saying follows from facts in a shape."""

from gradetalk.cells import cut, full_cell
from gradetalk.places import name_at, name_rows, pattern_of, words_of
from gradetalk.weights import weights_of


class Branch:
    """What the way to a node tells: what is known, the cells by ranks, the rows, and the sides taken.

    A row stands there as a tuple (rank, row), with the rank where its unknowns are; a side by its
    number among those of its split. A cell is None where its rows cannot all be so.
    """

    def __init__(self, known, cells, rows, taken):
        self.known = known
        self.cells = cells
        self.rows = rows
        self.taken = taken

    def further(self, known, rank, cell, rows, taken):
        """The branch behind one step more, which brings rows at a rank and so a cell there."""
        cells = list(self.cells)
        cells[rank] = cell
        return Branch(known, cells, self.rows + [(rank, row) for row in rows], self.taken + taken)


class Scribe:
    """Writes a paper in a shape for the saying and the facts of a plan.

    The aims are what it closes branches with: tuples (number, wanted, leaf). If the step with the
    number is known to lie at one, and that is wanted, or not to, the branch ends in the leaf. Some
    aim must come out wherever the rows can all be so.
    """

    def __init__(self, shape, plan, aims):
        self.plan = plan
        self.words = words_of(shape, len(plan.letters))
        self.aims = aims
        self.needed = plan.below([number for number, wanted, leaf in aims])
        self.names = [number for number in self.needed if plan.steps[number][0] == "name"]
        self.texts = {number: text for text, number in plan.numbers.items()}
        self.kept = {}

    def written(self):
        """The paper."""
        length = len(self.plan.letters) + 1
        cells = [full_cell([0], length) if word == "sum" else None for word in self.words]
        return self._tree(Branch(self.plan.start(self.words), cells, [], []))

    def _tree(self, branch):
        leaf = self._leaf(branch.known)
        if leaf is not None:
            return leaf
        number = [step for step in self.needed if branch.known[step] is None][0]
        if number in self.names:
            return self._place(branch, number)
        worths = [branch.known[name] for name in self.names]
        if None in worths:
            return self._split(branch, number)
        # Where names lie in the same pattern and the same sides were taken, all comes to the same.
        key = (pattern_of(self.words, [worth[0] for worth in worths]), tuple(branch.taken))
        if key not in self.kept:
            self.kept[key] = self._split(branch, number)
        return self.kept[key]

    def _leaf(self, known):
        top = len(self.words) - 1
        for number, wanted, leaf in self.aims:
            if known[number] is not None and (known[number][0] == top) == wanted:
                return leaf
        return None

    def _place(self, branch, number):
        name = self.texts[number]
        at, many = self.plan.letters.index(name), len(self.plan.letters)
        trees = []
        for rank in range(len(self.words)):
            known = self.plan.with_worth(branch.known, number, name_at(self.words, rank, at, many), self.words)
            rows = name_rows(self.words, rank, at, many)
            cell = self._cell_at(rank, known, [row for where, row in branch.rows if where == rank] + rows)
            trees.append(self._tree(branch.further(known, rank, cell, rows, [])))
        return ("place", name, tuple(trees))

    def _cell_at(self, rank, known, rows):
        """The cell of all names that are placed at a rank, or None where there are no unknowns."""
        if self.words[rank] not in ("sum", "in"):
            return None
        worths = [known[self.plan.numbers[letter]] for letter in self.plan.letters]
        places = [at + 1 for at, worth in enumerate(worths) if worth is not None and worth[0] == rank]
        if self.words[rank] == "sum":
            places = [0] + places
        return cut(full_cell(places, len(worths) + 1), rows)

    def _split(self, branch, number):
        rank = branch.known[self.plan.steps[number][1]][0]
        trees = []
        for side, (rows, worth) in enumerate(self.plan.sides(branch.known, number, self.words)):
            known = self.plan.with_worth(branch.known, number, worth, self.words)
            more = branch.further(known, rank, cut(branch.cells[rank], rows), rows, [side])
            if more.cells[rank] is None and self._leaf(known) is None:
                trees.append(("cannot", _weights_at(rank, more.rows)))
            else:
                trees.append(self._tree(more))
        return ("split", self.texts[number], *trees)


def _weights_at(rank, rows):
    """The weights with which the rows at a rank cannot all be so, and 0 for the other rows."""
    places = [at for at, (where, row) in enumerate(rows) if where == rank]
    weights = [0] * len(rows)
    for at, weight in zip(places, weights_of([rows[at][1] for at in places])):
        weights[at] = weight
    return tuple(weights)
