"""Bars: trees that show why no choice of outputs has walks of so many ties.

Within this file most is the greatest number of ties that a walk may have, None for any; a spot
is (hand, input); a tree that is being grown has ("apart", pair) for its leaves, without marks.
"""

from twoalone.checks import HANDS, is_hand, is_whole, is_whole_within
from twoalone.errors import NoRounds
from twoalone.places import LAST_PLACES
from twoalone.tasks import is_pair
from twoalone.weavings import MOST_ROUNDS
from twoalone.webs import distances, ties_of

# Only a thing that holds itself goes as far down as this, and it has no end.
MOST_DEPTH = 100000


def most_ties(rounds):
    """Tell the greatest number of ties that a walk has in so many rounds, None for all rounds."""
    if rounds is None:
        return None
    if not is_whole_within(rounds, 0, MOST_ROUNDS):
        raise NoRounds("a number of rounds is from 0 to 5, or left out")
    return LAST_PLACES[rounds]


def aways(task):
    """Tell for each pair, and each output let alone to hand 0, how far from it the points are."""
    told = {}
    for pair, let in task.both.items():
        ties = ties_of(let)
        told[pair] = {x: distances(ties, (0, x)) for x in task.alone[0][pair[0]]}
    return told


def is_too_far(ties, most):
    return ties is None or (most is not None and ties > most)


class Search:
    """Goes through the choices of a task, for one whose walks have no more than most ties."""

    def __init__(self, task, away, most):
        self.task = task
        self.away = away
        self.most = most
        self.spots = [(hand, at) for hand in HANDS for at in range(task.inputs(hand))]

    def begun(self):
        """Tell what goes_on tells, when nothing is chosen yet."""
        return self.goes_on({}, {spot: {} for spot in self.spots})

    def goes_on(self, chosen, barred):
        """Tell (choice, None, None), or (None, tree, used) where there is none.

        chosen has the outputs by their spots; barred has for each spot the outputs that
        something chosen is too far from, with the pair for which it is; used are the spots,
        of those chosen, that the tree leans on.
        """
        if len(chosen) == len(self.spots):
            return (chosen, None, None)
        spot = self.narrowest(chosen, barred)
        trees = []
        used = {}
        for output in self.let_alone(spot):
            choice, tree, leans_on = self.tried(chosen, barred, spot, output)
            # A tree that does without this choice does alone, so the others need no look.
            if tree is None or spot not in leans_on:
                return (choice, tree, leans_on)
            trees.append(tree)
            for other in leans_on:
                used[other] = True
        del used[spot]
        return (None, ("choose", spot[0], spot[1], trees), used)

    def tried(self, chosen, barred, spot, output):
        """Tell what goes_on tells, when this output is chosen here."""
        pair = barred[spot].get(output)
        if pair is not None:
            return (None, ("apart", pair), {(0, pair[0]): True, (1, pair[1]): True})
        return self.goes_on({**chosen, spot: output}, self.narrowed(chosen, barred, spot, output))

    def let_alone(self, spot):
        return self.task.alone[spot[0]][spot[1]]

    def narrowest(self, chosen, barred):
        """Tell the spot with the fewest outputs left to choose, so that dead ends show early."""
        rows = []
        for spot in self.spots:
            if spot not in chosen:
                outputs = self.let_alone(spot)
                rows.append((len(outputs) - len(barred[spot]), len(outputs), spot))
        return min(rows)[2]

    def narrowed(self, chosen, barred, spot, output):
        """Tell what is barred when this output is chosen here, too."""
        told = dict(barred)
        for pair in self.away:
            ends = [(hand, pair[hand]) for hand in HANDS]
            other = ends[1 - spot[0]]
            if spot == ends[spot[0]] and other not in chosen:
                told[other] = self.with_barred(told[other], pair, spot, output)
        return told

    def with_barred(self, row, pair, spot, output):
        """Tell the outputs barred at the other end of the pair, when this one is chosen here."""
        hand = 1 - spot[0]
        told = dict(row)
        for other in self.let_alone((hand, pair[hand])):
            x, y = (output, other) if hand == 1 else (other, output)
            if other not in told and is_too_far(self.away[pair][x].get((1, y)), self.most):
                told[other] = pair
        return told


def marked(task, away, most, pair, x):
    """Tell the points of the pair's web with numbers that say how far they are from hand 0's x."""
    from_x = away[pair][x]
    beyond = 1 if most is None else most + 1
    marks = []
    for hand, output in sorted(ties_of(task.both[pair])):
        ties = from_x.get((hand, output), beyond)
        # Where any number of ties will do, it only counts whether there is a way at all.
        number = 0 if most is None and (hand, output) in from_x else ties
        marks.append((hand, output, number))
    return marks


def written(task, away, most, tree, chosen):
    """Tell the tree that was grown with the marks that its leaves need."""
    if tree[0] == "apart":
        pair = tree[1]
        return ("apart", pair, marked(task, away, most, pair, chosen[(0, pair[0])]))
    word, hand, at, trees = tree
    told = []
    for output, each in zip(task.alone[hand][at], trees):
        told.append(written(task, away, most, each, {**chosen, (hand, at): output}))
    return (word, hand, at, told)


def bar(task, *, rounds=None):
    """Tell a bar for so many rounds, left out for all, None where there is a protocol."""
    most = most_ties(rounds)
    away = aways(task)
    tree = Search(task, away, most).begun()[1]
    return None if tree is None else written(task, away, most, tree, {})


def is_word(thing, word):
    return isinstance(thing, str) and thing == word


def is_branch(task, thing):
    """Whether this chooses at an input, with as many things in it as outputs are let alone for it."""
    return (
        isinstance(thing, tuple)
        and len(thing) == 4
        and is_word(thing[0], "choose")
        and is_hand(thing[1])
        and is_whole_within(thing[2], 0, task.inputs(thing[1]) - 1)
        and isinstance(thing[3], list)
        and len(thing[3]) == len(task.alone[thing[1]][thing[2]])
    )


def is_mark(thing):
    return isinstance(thing, tuple) and len(thing) == 3 and all([is_whole(x) for x in thing])


def is_leaf(task, thing):
    """Whether this has a pair, and one mark for each point of its web, sorted."""
    return (
        isinstance(thing, tuple)
        and len(thing) == 3
        and is_word(thing[0], "apart")
        and is_pair(task, thing[1])
        and isinstance(thing[2], list)
        and all([is_mark(mark) for mark in thing[2]])
        and [mark[:2] for mark in thing[2]] == sorted(ties_of(task.both[thing[1]]))
    )


def is_tree(task, thing):
    """Whether this has the form of a bar as far down as it goes."""
    # Not by recursion: a thing may go down further than that can.
    left = [[thing]]
    while left:
        if len(left) > MOST_DEPTH:
            return False
        if not left[-1]:
            left.pop()
        else:
            tree = left[-1].pop()
            if is_branch(task, tree):
                left.append(list(tree[3]))
            elif not is_leaf(task, tree):
                return False
    return True


def is_apart(task, most, chosen, leaf):
    """Whether this leaf shows that what was chosen on the way can't stand together."""
    pair, marks = leaf[1], leaf[2]
    if (0, pair[0]) not in chosen or (1, pair[1]) not in chosen:
        return False
    numbers = {(hand, output): number for hand, output, number in marks}
    first, last = (0, chosen[(0, pair[0])]), (1, chosen[(1, pair[1])])
    if first not in numbers or last not in numbers:
        return True
    widest = max([abs(numbers[(0, x)] - numbers[(1, y)]) for x, y in task.both[pair]])
    gap = numbers[last] - numbers[first]
    if most is None:
        return widest == 0 and gap != 0
    return widest <= 1 and gap > most


def tree_fault(task, most, tree, chosen, path):
    """Tell the first fault of this tree, each ahead of those in it, None where there is none."""
    if tree[0] == "apart":
        return None if is_apart(task, most, chosen, tree) else ("apart", path)
    spot = (tree[1], tree[2])
    if spot in chosen:
        return ("choose", path)
    outputs = task.alone[spot[0]][spot[1]]
    for at in range(len(outputs)):
        fault = tree_fault(task, most, tree[3][at], {**chosen, spot: outputs[at]}, [*path, at])
        if fault is not None:
            return fault
    return None


def bar_fault(task, thing, *, rounds=None):
    """Tell the first fault of anything as a bar for so many rounds, left out for all, None where it has none."""
    most = most_ties(rounds)
    if not is_tree(task, thing):
        return ("form",)
    return tree_fault(task, most, thing, {}, [])
