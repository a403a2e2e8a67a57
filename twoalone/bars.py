"""Bars: trees that show why no choice of outputs has walks of so many ties.

Within this file most is the greatest number of ties that a walk may have, None for any; a spot
is (hand, input). A search grows a tree of ("choose", spot, trees) and ("apart", spot, spot),
without marks; its spots may be anything that has to get an output.
"""

from twoalone.checks import HANDS, is_hand, is_whole, is_whole_within
from twoalone.errors import NoRounds
from twoalone.places import LAST_PLACES
from twoalone.tasks import is_pair
from twoalone.weavings import MOST_ROUNDS
from twoalone.webs import distances, ties_of

# Lists of trees are tagged only behind so many, so that those of a thing of common size are not touched at all.
MOST_UNTAGGED = 100000


def most_ties(rounds):
    """Tell the greatest number of ties that a walk has in so many rounds, None for all rounds."""
    if rounds is None:
        return None
    if not is_whole_within(rounds, 0, MOST_ROUNDS):
        raise NoRounds("a number of rounds is from 0 to 5, or left out")
    return LAST_PLACES[rounds]


def aways(task):
    """Tell for each pair, and each output let alone to hand 0, how far from it the points are."""
    told = {}
    for pair, let in task.both.items():
        ties = ties_of(let)
        told[pair] = {x: distances(ties, (0, x)) for x in task.alone[0][pair[0]]}
    return told


def is_too_far(ties, most):
    return ties is None or (most is not None and ties > most)


class Search:
    """Goes through the ways to choose an output at each spot, for one in which all bonds hold.

    outputs has for each spot those to choose from; bonds has for each spot a list of
    (other spot, fits), where fits has for an output here the outputs there that go with it.
    """

    def __init__(self, outputs, bonds):
        self.outputs = outputs
        self.bonds = bonds

    def begun(self):
        """Tell what goes_on tells, when nothing is chosen yet."""
        return self.goes_on({}, {spot: {} for spot in self.outputs})

    def goes_on(self, chosen, barred):
        """Tell (choice, None, None), or (None, tree, used) where there is none.

        chosen has the outputs by their spots; barred has for each spot the outputs that go
        with nothing of what is chosen at another spot, with that spot; used are the spots,
        of those chosen, that the tree leans on.
        """
        if len(chosen) == len(self.outputs):
            return (chosen, None, None)
        spot = self.narrowest(chosen, barred)
        trees = []
        used = {}
        for output in self.outputs[spot]:
            choice, tree, leans_on = self.tried(chosen, barred, spot, output)
            # A tree that does without this choice does alone, so the others need no look.
            if tree is None or spot not in leans_on:
                return (choice, tree, leans_on)
            trees.append(tree)
            for other in leans_on:
                if other != spot:
                    used[other] = True
        return (None, ("choose", spot, trees), used)

    def tried(self, chosen, barred, spot, output):
        """Tell what goes_on tells, when this output is chosen here."""
        other = barred[spot].get(output)
        if other is not None:
            return (None, ("apart", spot, other), {spot: True, other: True})
        return self.goes_on({**chosen, spot: output}, self.narrowed(chosen, barred, spot, output))

    def narrowest(self, chosen, barred):
        """Tell the spot with the fewest outputs left to choose, so that dead ends show early."""
        rows = []
        for spot, outputs in self.outputs.items():
            if spot not in chosen:
                rows.append((len(outputs) - len(barred[spot]), len(outputs), spot))
        return min(rows)[2]

    def narrowed(self, chosen, barred, spot, output):
        """Tell what is barred when this output is chosen here, too."""
        told = {at: barred[at] for at in barred}
        for other, fits in self.bonds[spot]:
            if other not in chosen:
                told[other] = self.with_barred(told[other], other, fits.get(output, {}), spot)
        return told

    def with_barred(self, row, other, fitting, spot):
        """Tell the outputs barred at the other spot, when only the fitting ones go with what is chosen here."""
        told = dict(row)
        for output in self.outputs[other]:
            if output not in fitting and output not in told:
                told[output] = spot
        return told


def near_enough(from_each, outputs, most):
    """Tell for each output of hand 0 those of hand 1 that are no more than most ties from it."""
    told = {}
    for x, from_x in from_each.items():
        told[x] = {y: True for y in outputs if not is_too_far(from_x.get((1, y)), most)}
    return told


def turned(fits, outputs):
    """Tell the same fits, asked from the other hand, whose outputs these are."""
    return {y: {x: True for x in fits if y in fits[x]} for y in outputs}


def searched(task, away, most):
    """Tell what a search tells for a choice of outputs let alone, no two of them too far from each other."""
    outputs = {(hand, at): task.alone[hand][at] for hand in HANDS for at in range(task.inputs(hand))}
    bonds = {spot: [] for spot in outputs}
    for pair in task.both:
        ours, theirs = (0, pair[0]), (1, pair[1])
        fits = near_enough(away[pair], outputs[theirs], most)
        bonds[ours].append((theirs, fits))
        bonds[theirs].append((ours, turned(fits, outputs[theirs])))
    return Search(outputs, bonds).begun()


def marked(task, away, most, pair, x):
    """Tell the points of the pair's web with numbers that say how far they are from hand 0's x."""
    from_x = away[pair][x]
    beyond = 1 if most is None else most + 1
    marks = []
    for hand, output in sorted(ties_of(task.both[pair])):
        ties = from_x.get((hand, output), beyond)
        # Where any number of ties will do, it only counts whether there is a way at all.
        number = 0 if most is None and (hand, output) in from_x else ties
        marks.append((hand, output, number))
    return marks


def written(task, away, most, tree, chosen, marks):
    """Tell the tree that was grown with the marks that its leaves need; those found once are kept in marks."""
    if tree[0] == "apart":
        ours, theirs = sorted(tree[1:])
        pair, x = (ours[1], theirs[1]), chosen[ours]
        if (pair, x) not in marks:
            marks[(pair, x)] = marked(task, away, most, pair, x)
        return ("apart", pair, list(marks[(pair, x)]))
    hand, at = tree[1]
    told = []
    for output, each in zip(task.alone[hand][at], tree[2]):
        told.append(written(task, away, most, each, {**chosen, (hand, at): output}, marks))
    return ("choose", hand, at, told)


def bar(task, *, rounds=None):
    """Tell a bar for so many rounds, left out for all, None where there is a protocol."""
    most = most_ties(rounds)
    away = aways(task)
    tree = searched(task, away, most)[1]
    return None if tree is None else written(task, away, most, tree, {}, {})


def is_word(thing, word):
    return isinstance(thing, str) and thing == word


def is_marks(thing, points):
    """Whether this has one mark for each of these points, in their order."""
    return (
        isinstance(thing, list)
        and all([isinstance(mark, tuple) and len(mark) == 3 for mark in thing])
        and all([is_whole(x) for mark in thing for x in mark])
        and [mark[:2] for mark in thing] == points
    )


class Faults:
    """Looks for the faults of anything as a bar of this task."""

    def __init__(self, task, most):
        self.task = task
        self.most = most
        self.points = {pair: sorted(ties_of(let)) for pair, let in task.both.items()}

    def is_leaf(self, thing):
        """Whether this has a pair, and one mark for each point of its web, sorted."""
        return (
            isinstance(thing, tuple)
            and len(thing) == 3
            and is_word(thing[0], "apart")
            and is_pair(self.task, thing[1])
            and is_marks(thing[2], self.points[thing[1]])
        )

    def is_tagged(self, trees):
        """Whether this list was looked through: then the last of it is this object."""
        return isinstance(trees[-1], Faults) and trees[-1] == self

    def is_branch(self, thing):
        """Whether this chooses at an input, with as many things in it as outputs are let alone for it."""
        if not isinstance(thing, tuple) or len(thing) != 4 or not is_word(thing[0], "choose") or not is_hand(thing[1]):
            return False
        rows = self.task.alone[thing[1]]
        if not is_whole_within(thing[2], 0, len(rows) - 1) or not isinstance(thing[3], list) or not thing[3]:
            return False
        return len(thing[3]) == len(rows[thing[2]]) + int(self.is_tagged(thing[3]))

    def is_formed(self, thing):
        """Whether this has the form of a bar as far down as it goes."""
        tagged = []
        formed = self.looked_through(thing, tagged)
        for trees in tagged:
            trees.pop()
        return formed

    def looked_through(self, thing, tagged):
        """Tell whether all trees of this have the form; put the lists that got a tag, at their end, into tagged.

        Without tags, one that holds itself would have no end, and one that holds another one
        often would be gone through as often. Whoever asks takes the tags off again.
        """
        # Not by recursion, since a thing may go down further than that can; and the last tree of
        # a row first, since first_in goes the other way round.
        rows, left, looked = [[thing]], [1], 0
        while rows:
            left[-1] -= 1
            tree = rows[-1][left[-1]]
            if left[-1] == 0:
                rows.pop()
                left.pop()
            if not self.is_branch(tree):
                if not self.is_leaf(tree):
                    return False
            elif not self.is_tagged(tree[3]):
                trees = tree[3]
                rows.append(trees)
                left.append(len(trees))
                looked += 1
                if looked > MOST_UNTAGGED:
                    trees.append(self)
                    tagged.append(trees)
        return True

    def is_apart(self, chosen, leaf):
        """Whether this leaf shows that what was chosen on the way can't stand together."""
        pair, marks = leaf[1], leaf[2]
        if (0, pair[0]) not in chosen or (1, pair[1]) not in chosen:
            return False
        numbers = {(hand, output): number for hand, output, number in marks}
        first, last = (0, chosen[(0, pair[0])]), (1, chosen[(1, pair[1])])
        if first not in numbers or last not in numbers:
            return True
        widest = max([abs(numbers[(0, x)] - numbers[(1, y)]) for x, y in self.task.both[pair]])
        gap = numbers[last] - numbers[first]
        if self.most is None:
            return widest == 0 and gap != 0
        return widest <= 1 and gap > self.most

    def first_in(self, tree, chosen, path):
        """Tell the first fault of this tree, each ahead of those in it, None where there is none.

        It goes down no further than there are inputs, since none is chosen twice without a fault.
        """
        if not self.is_branch(tree):
            if not self.is_leaf(tree):
                return ("form",)
            return None if self.is_apart(chosen, tree) else ("apart", path)
        spot = (tree[1], tree[2])
        if spot in chosen:
            return ("choose", path)
        outputs = self.task.alone[spot[0]][spot[1]]
        for at in range(len(outputs)):
            fault = self.first_in(tree[3][at], {**chosen, spot: outputs[at]}, [*path, at])
            if fault is not None:
                return fault
        return None


def bar_fault(task, thing, *, rounds=None):
    """Tell the first fault of anything as a bar for so many rounds, left out for all, None where it has none."""
    faults = Faults(task, most_ties(rounds))
    fault = faults.first_in(thing, {}, [])
    # One of the form is told ahead of any other, wherever it stands.
    if fault not in (None, ("form",)) and not faults.is_formed(thing):
        return ("form",)
    return fault
