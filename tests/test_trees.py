"""Promise 15, trees: which things are let by as trees that tell of two rows that they are alike."""

import itertools
import random
import unittest

from test_rows import draw_row
from letterbench import trees
from letterbench.comparing import beside
from letterbench.rows import is_rows, run
from letterbench.trees import MOST_BYTES, lets_tree

YES = ("told", True)
NO = ("told", False)
ALL = (("end", True),)
NONE = (("end", False),)

# Whether the first byte is there and is 7.
SEVEN = (("take", 0, 0, 1, "big", 4), ("ask", 0, "same", 7, 3), ("go", 4), ("end", True), ("end", False))
SEVEN_TREE = ("length", 1, NO, ("byte", 0, 7, NO, ("byte", 0, 8, YES, NO)))


def asking(taking, word, worth):
    """Rows that tell yes where a box is so."""
    return (taking + (4,), ("ask", 0, word, worth, 3), ("go", 4), ("end", True), ("end", False))


def skipping(times, more, *, taking=("take", 0, 0, 1, "big")):
    """Rows that tell yes where a skip is within the bytes."""
    return (taking + (3,), ("skip", 0, times, more, 3), ("end", True), ("end", False))


class Cases(unittest.TestCase):
    def so(self, one, other, thing):
        self.assertTrue(is_rows(one) and is_rows(other))
        self.assertIs(lets_tree(one, other, thing), True, thing)
        self.assertIs(lets_tree(other, one, thing), True, thing)

    def not_so(self, one, other, thing):
        self.assertTrue(is_rows(one) and is_rows(other))
        self.assertIs(lets_tree(one, other, thing), False, thing)
        self.assertIs(lets_tree(other, one, thing), False, thing)


class Leaves(Cases):
    def test_most_bytes(self):
        self.assertEqual(MOST_BYTES, 120)
        self.assertIs(type(MOST_BYTES), int)

    def test_told_at_once(self):
        self.so(ALL, ALL, YES)
        self.so(NONE, NONE, NO)
        self.not_so(ALL, ALL, NO)
        self.not_so(NONE, NONE, YES)
        self.not_so(ALL, NONE, YES)
        self.not_so(ALL, NONE, NO)

    def test_things_of_other_kinds(self):
        for thing in (None, True, False, 1, "told", b"told", [], (), {}, ["told", True], ("told",), ("told", 1), ("told", 0), ("told", None),
                      ("told", "yes"), ("told", (True,)), ("told", True, True), ("Told", True), ("told ", True), (None, True), (True, True),
                      (("told",), True), (["told"], True), object(), frozenset(["told"]), ("length",), ("length", 5),
                      ("length", 5, YES), ("length", 5, YES, YES, YES), ["length", 5, YES, YES], ("byte", 0, 5, YES),
                      ("byte", 0, 5, YES, YES, YES), ("byte", 0, 5), (YES, YES), (YES,), ("told", YES), ({}, 5, YES, YES),
                      (None, 5, YES, YES), ("end", True), ("same", 0, 5, YES, YES), ("length", 0, 5, YES, YES), ("byte", 5, YES, YES)):
            self.not_so(ALL, ALL, thing)

    def test_a_self_holding_list(self):
        thing = []
        thing.append(thing)
        self.not_so(ALL, ALL, thing)
        self.not_so(ALL, ALL, ("length", 5, thing, YES))


class Partings(Cases):
    def test_lengths(self):
        for many in (1, 2, 60, 119, 120):
            self.so(ALL, ALL, ("length", many, YES, YES))
        for many in (0, -1, 121, 122, 10 ** 30, True, None, "5", (5,), [5]):
            self.not_so(ALL, ALL, ("length", many, YES, YES))

    def test_lengths_that_leave_nothing(self):
        self.so(ALL, ALL, ("length", 5, ("length", 4, YES, YES), ("length", 6, YES, YES)))
        self.not_so(ALL, ALL, ("length", 5, ("length", 5, YES, YES), YES))
        self.not_so(ALL, ALL, ("length", 5, ("length", 6, YES, YES), YES))
        self.not_so(ALL, ALL, ("length", 5, YES, ("length", 5, YES, YES)))
        self.not_so(ALL, ALL, ("length", 5, YES, ("length", 4, YES, YES)))
        self.not_so(ALL, ALL, ("length", 1, ("length", 1, YES, YES), YES))
        self.so(ALL, ALL, ("length", 120, ("length", 119, YES, YES), YES))
        self.not_so(ALL, ALL, ("length", 120, YES, ("length", 120, YES, YES)))

    def test_bytes_within_the_least_length(self):
        for place in (0, 1, 60, 119):
            inner = ("byte", place, 5, YES, YES)
            self.so(ALL, ALL, ("length", place + 1, YES, inner))
            self.not_so(ALL, ALL, ("length", place + 1, inner, YES))
            self.not_so(ALL, ALL, inner)
            if place:
                self.not_so(ALL, ALL, ("length", place, YES, inner))
        for place in (-1, 120, 121, True, False, None, "0", (0,)):
            self.not_so(ALL, ALL, ("length", 120, YES, ("byte", place, 5, YES, YES)))

    def test_worths_that_leave_something(self):
        for worth in (1, 2, 128, 254, 255):
            self.so(ALL, ALL, ("length", 1, YES, ("byte", 0, worth, YES, YES)))
        for worth in (0, -1, 256, 10 ** 30, True, None, "5", (5,)):
            self.not_so(ALL, ALL, ("length", 1, YES, ("byte", 0, worth, YES, YES)))

    def test_worths_that_leave_nothing(self):
        def within(less, more):
            return ("length", 2, YES, ("byte", 0, 5, less, more))
        self.so(ALL, ALL, within(("byte", 0, 4, YES, YES), ("byte", 0, 6, YES, YES)))
        self.so(ALL, ALL, within(("byte", 1, 5, YES, YES), ("byte", 1, 5, YES, YES)))
        for worth in (5, 6, 255):
            self.not_so(ALL, ALL, within(("byte", 0, worth, YES, YES), YES))
        for worth in (1, 4, 5):
            self.not_so(ALL, ALL, within(YES, ("byte", 0, worth, YES, YES)))
        one = ("byte", 0, 1, ("byte", 0, 1, YES, YES), YES)
        self.not_so(ALL, ALL, ("length", 1, YES, one))

    def test_one_hundred_and_twenty_bytes_and_one_more(self):
        def last(place):
            return (("take", 0, place, 1, "big", 3), ("ask", 0, "less", 9, 3), ("end", True), ("end", False))
        rows = last(119)
        self.so(rows, rows, ("length", 120, NO, ("byte", 119, 9, NO, YES)))
        self.not_so(rows, rows, ("length", 119, NO, ("byte", 119, 9, NO, YES)))
        self.so(last(120), last(120), NO)
        self.so(last(120), last(400), NO)
        self.so(last(120), NONE, NO)
        self.not_so(last(120), last(120), ("length", 121, NO, ("byte", 120, 9, NO, YES)))

    def test_a_tree_that_is_wrong_far_within(self):
        tree = YES
        for many in range(1, 121):
            tree = ("length", many, tree, YES)
        self.so(ALL, ALL, tree)
        for place in range(5):
            bent = NO if place % 2 else ("told", 1)
            for many in range(place + 1, 121):
                bent = ("length", many, bent, YES)
            self.not_so(ALL, ALL, bent)


class ByHand(Cases):
    def test_the_tree(self):
        self.so(SEVEN, SEVEN, SEVEN_TREE)

    def test_a_truth_turned(self):
        self.not_so(SEVEN, SEVEN, ("length", 1, YES, SEVEN_TREE[3]))
        self.not_so(SEVEN, SEVEN, ("length", 1, NO, ("byte", 0, 7, YES, ("byte", 0, 8, YES, NO))))
        self.not_so(SEVEN, SEVEN, ("length", 1, NO, ("byte", 0, 7, NO, ("byte", 0, 8, NO, NO))))
        self.not_so(SEVEN, SEVEN, ("length", 1, NO, ("byte", 0, 7, NO, ("byte", 0, 8, YES, YES))))

    def test_a_part_left_out(self):
        self.not_so(SEVEN, SEVEN, SEVEN_TREE[3])
        self.not_so(SEVEN, SEVEN, NO)
        for tree in (("length", 1, NO, NO), ("length", 1, NO, YES), ("length", 1, NO, ("byte", 0, 7, NO, YES)),
                     ("length", 1, NO, ("byte", 0, 7, NO, NO)), ("length", 1, NO, ("byte", 0, 8, YES, NO)),
                     ("length", 1, NO, ("byte", 0, 8, NO, NO))):
            self.not_so(SEVEN, SEVEN, tree)

    def test_a_leaf_parted_once_more(self):
        self.so(SEVEN, SEVEN, ("length", 1, NO, ("byte", 0, 7, ("byte", 0, 3, NO, NO), ("byte", 0, 8, YES, NO))))
        self.so(SEVEN, SEVEN, ("length", 1, NO, ("byte", 0, 7, NO, ("byte", 0, 8, ("length", 9, YES, YES), NO))))
        self.so(SEVEN, SEVEN, ("length", 2, ("length", 1, NO, SEVEN_TREE[3]), ("byte", 1, 77, SEVEN_TREE[3], SEVEN_TREE[3])))

    def test_bytes_parted_in_another_order(self):
        self.so(SEVEN, SEVEN, ("length", 1, NO, ("byte", 0, 8, ("byte", 0, 7, NO, YES), NO)))
        self.not_so(SEVEN, SEVEN, ("byte", 0, 7, ("length", 1, NO, NO), ("byte", 0, 8, YES, NO)))

    def test_the_bounds_alone_count(self):
        """A byte above 7 isn't 7, and the second rows don't ask it; yet it has to be known for the first ones."""
        other = (("take", 0, 0, 1, "big", 1), ("end", False))
        one = (("take", 0, 0, 1, "big", 2), ("ask", 0, "same", 7, 2), ("end", False))
        self.so(one, other, ("length", 1, NO, ("byte", 0, 7, NO, ("byte", 0, 8, NO, NO))))
        self.so(one, NONE, ("length", 1, NO, ("byte", 0, 7, NO, ("byte", 0, 8, NO, NO))))
        for tree in (NO, ("length", 1, NO, NO), ("length", 1, NO, ("byte", 0, 7, NO, NO))):
            self.not_so(one, other, tree)
            self.not_so(one, NONE, tree)
        self.so(other, NONE, ("length", 1, NO, NO))
        self.not_so(other, NONE, NO)

    def test_moves(self):
        for more in (0, 1, 2, 120):
            rows = (("move", more, 2), ("end", True), ("end", False))
            self.so(rows, rows, ("length", more, NO, YES) if more else YES)
            if more:
                self.not_so(rows, rows, NO)
                self.not_so(rows, rows, ("length", max(1, more - 1), NO, YES) if more > 1 else YES)
        rows = (("move", 121, 2), ("end", True), ("end", False))
        self.so(rows, rows, NO)
        rows = (("move", 60, 3), ("move", 60, 3), ("end", True), ("end", False))
        self.so(rows, rows, ("length", 60, NO, ("length", 120, NO, YES)))
        self.so(rows, (("move", 120, 2), ("end", True), ("end", False)), ("length", 60, NO, ("length", 120, NO, YES)))
        self.not_so(rows, rows, ("length", 60, NO, YES))
        back = (("move", 60, 4), ("back",), ("move", 60, 4), ("end", True), ("end", False))
        self.so(back, back, ("length", 60, NO, YES))

    def test_numbers_of_more_bytes(self):
        rows = asking(("take", 0, 0, 2, "big"), "less", 0x0305)
        tree = ("length", 2, NO, ("byte", 0, 3, YES, ("byte", 0, 4, ("byte", 1, 5, YES, NO), NO)))
        self.so(rows, rows, tree)
        self.not_so(rows, rows, ("length", 2, NO, ("byte", 0, 3, YES, ("byte", 1, 5, YES, NO))))
        small = asking(("take", 0, 0, 2, "small"), "less", 0x0305)
        self.so(small, small, ("length", 2, NO, ("byte", 1, 3, YES, ("byte", 1, 4, ("byte", 0, 5, YES, NO), NO))))
        self.not_so(small, small, tree)
        self.not_so(small, rows, tree)

    def test_a_number_between_the_ends_that_it_never_is(self):
        """With a first byte of 1 or 2 and a second one of 5 or 6 a number lies from 261 to 518, and is four of these."""
        for order, first, second in (("big", 0, 1), ("small", 1, 0)):
            for worth, is_known in ((300, True), (256 + 9, True), (512, True), (261, False), (262, False), (517, False), (518, False),
                                    (260, True), (519, True), (1000, True), (2 ** 16 + 261, True), (2 ** 40, True)):
                rows = asking(("take", 0, 0, 2, order), "same", worth)
                whole = by_length(beside(rows, rows)[1], 2, 120)
                some = pruned(whole, first, 1, 2)
                tree = ("byte", first, 1, pruned(whole, first, 0, 0), ("byte", first, 3, (
                    "byte", second, 5, pruned(some, second, 0, 4), ("byte", second, 7, NO, pruned(some, second, 7, 255))),
                    pruned(whole, first, 3, 255)))
                (self.so if is_known else self.not_so)(rows, rows, ("length", 2, NO, tree))

    def test_parts(self):
        for shift, width, worth in ((0, 1, 1), (7, 1, 1), (0, 8, 200), (3, 2, 2), (4, 4, 9), (6, 4, 3), (2, 3, 8), (0, 4, 0)):
            for word in ("same", "less", "more"):
                rows = asking(("part", 0, 0, shift, width), word, worth)
                tree = YES
                for byte in range(255, -1, -1):
                    leaf = ("told", run(rows, (byte,))[0])
                    tree = leaf if byte == 255 else ("byte", 0, byte + 1, leaf, tree)
                self.so(rows, rows, ("length", 1, NO, tree))
                ranges = []
                for byte in range(256):
                    if not ranges or ranges[-1][1] != run(rows, (byte,))[0]:
                        ranges.append((byte, run(rows, (byte,))[0]))
                tree = ("told", ranges[-1][1])
                for (_, truth), (begin, _) in reversed(list(zip(ranges, ranges[1:]))):
                    tree = ("byte", 0, begin, ("told", truth), tree)
                self.so(rows, rows, ("length", 1, NO, tree))
                for begin, truth in ranges[1:]:
                    self.not_so(rows, rows, ("length", 1, NO, joined_at(tree, begin)))

    def test_parts_that_turn(self):
        """From 0x3e to 0x41 the lowest four bits are 14, 15, 0 and 1: neither 7 nor of one kind by less and more."""
        def tree(less, within, more):
            return ("length", 1, NO, ("byte", 0, 0x3e, less, ("byte", 0, 0x42, within, more)))
        taking = ("part", 0, 0, 0, 4)
        for word, worth, is_known in (("same", 7, True), ("same", 2, True), ("same", 13, True), ("same", 14, False), ("same", 0, False),
                                      ("less", 1, False), ("less", 14, False), ("less", 16, True), ("more", 0, False), ("more", 15, True)):
            rows = asking(taking, word, worth)
            truth = ("told", run(rows, (0x3f,))[0])
            whole = beside(rows, rows)[1][3]
            less = pruned(whole, 0, 0, 0x3d)
            more = pruned(whole, 0, 0x42, 255)
            (self.so if is_known else self.not_so)(rows, rows, tree(less, truth, more))

    def test_skips_of_one_worth(self):
        rows = skipping(2, 1)
        tree = NO
        for byte in range(59, -1, -1):
            many = 2 * byte + 1
            leaf = ("length", many, NO, YES) if many > 1 else YES
            tree = ("byte", 0, byte + 1, leaf, tree)
        self.so(rows, rows, ("length", 1, NO, tree))

    def test_skips_of_several_worths(self):
        rows = skipping(1, -3)
        below = ("byte", 0, 3, NO, None)

        def tree(least, most):
            """Three and more are told by these lengths; least to most are left together."""
            inner = NO
            for byte in range(123, 2, -1):
                if least < byte <= most:
                    continue
                leaf = ("length", byte - 3, NO, YES) if byte > 4 else YES
                inner = ("byte", 0, (most if byte == least else byte) + 1, leaf, inner)
            return ("length", 1, NO, below[:-1] + (inner,))
        self.so(rows, rows, tree(200, 200))
        self.not_so(rows, rows, tree(3, 4))
        self.not_so(rows, rows, tree(50, 51))
        together = ("length", 1, NO, ("byte", 0, 4, NO, NO))
        self.not_so(rows, NONE, together)

    def test_skips_beyond_the_bytes_for_all(self):
        rows = skipping(3, 40)
        self.not_so(rows, NONE, ("length", 1, NO, NO))
        whole = beside(rows, rows)[1][3]
        self.so(rows, rows, ("length", 1, NO, ("byte", 0, 27, pruned(whole, 0, 0, 26), NO)))
        self.not_so(rows, rows, ("length", 1, NO, ("byte", 0, 26, pruned(whole, 0, 0, 25), NO)))
        self.so(rows, rows, ("length", 1, NO, ("length", 40, NO, by_length(whole, 40, 120))))
        self.not_so(rows, rows, ("length", 1, NO, ("length", 41, NO, by_length(whole, 41, 120))))

    def test_skips_below_nought_or_beyond_are_not_one(self):
        """The lowest four bits of 0x10 and 0x0f are 0 and 15: one skips below 0, the other one beyond seven bytes."""
        rows = skipping(1, -5, taking=("part", 0, 0, 0, 4))
        whole = beside(rows, rows)[1]
        few = by_length(whole, 1, 7)

        def filled(within):
            return ("length", 1, NO, ("length", 8, ("byte", 0, 0x0f, pruned(few, 0, 0, 0x0e), (
                "byte", 0, 0x11, within, pruned(few, 0, 0x11, 255))), by_length(whole, 8, 120)))
        self.so(rows, rows, filled(("byte", 0, 0x10, NO, NO)))
        self.not_so(rows, rows, filled(NO))

    def test_a_box_is_what_it_was_when_it_was_set(self):
        rows = (("take", 0, 0, 1, "big", 4), ("take", 0, 1, 1, "big", 4), ("ask", 0, "less", 5, 4), ("end", True), ("end", False))
        self.so(rows, rows, ("length", 1, NO, ("length", 2, NO, ("byte", 1, 5, NO, YES))))
        self.not_so(rows, rows, ("length", 1, NO, ("length", 2, NO, ("byte", 0, 5, NO, YES))))
        stays = (("take", 0, 0, 1, "big", 4), ("take", 0, 1, 1, "big", 2), ("ask", 0, "less", 5, 4), ("end", True), ("end", False))
        told = ("length", 1, NO, ("length", 2, ("byte", 0, 5, NO, YES), ("byte", 1, 5, NO, YES)))
        self.so(stays, stays, told)
        self.not_so(stays, rows, told)


def by_length(tree, least, most):
    """A tree where the length is within these bounds."""
    if tree[0] != "length":
        return tree if tree[0] == "told" else tree[:3] + (by_length(tree[3], least, most), by_length(tree[4], least, most))
    if most < tree[1]:
        return by_length(tree[2], least, most)
    if least >= tree[1]:
        return by_length(tree[3], least, most)
    return tree[:2] + (by_length(tree[2], least, tree[1] - 1), by_length(tree[3], tree[1], most))


def pruned(tree, place, low, high):
    """A tree where the byte at a place is within these bounds."""
    if tree[0] == "told":
        return tree
    if tree[0] == "length" or tree[1] != place:
        return tree[:-2] + (pruned(tree[-2], place, low, high), pruned(tree[-1], place, low, high))
    if high < tree[2]:
        return pruned(tree[3], place, low, high)
    if low >= tree[2]:
        return pruned(tree[4], place, low, high)
    return tree[:3] + (pruned(tree[3], place, low, tree[2] - 1), pruned(tree[4], place, tree[2], high))


def joined_at(tree, worth):
    """A row of partings of one byte, rising, without the one at this worth."""
    if tree[2] == worth:
        return tree[4]
    return tree[:4] + (joined_at(tree[4], worth),)


class Slow:
    """Rows run on all bytes within bounds, by the sets of all worths that a box may have."""

    def __init__(self, lengths, ranges):
        self.lengths = lengths
        self.ranges = ranges

    def worths(self, box):
        places, shift, width = box
        ranges = [self.ranges.get(place, range(256)) for place in places]
        if width is None:
            return {int.from_bytes(bytes(one), "big") for one in itertools.product(*ranges)}
        return {int(format(byte, "08b")[:8 - shift][-width:], 2) for byte in ranges[0]}

    def one_of(self, truths):
        found = set(truths)
        return found.pop() if len(found) == 1 else None

    def goes(self, row, boxes, place):
        """Whether a row goes elsewhere, and the place where it doesn't; None where that isn't so of all."""
        if row[0] in ("take", "part", "move"):
            end = place + {"take": lambda: row[2] + row[3], "part": lambda: row[2] + 1, "move": lambda: row[1]}[row[0]]()
            return self.one_of(end > length for length in self.lengths), end if row[0] == "move" else place
        if row[0] == "skip":
            skips = {row[2] * worth + row[3] for worth in self.worths(boxes[row[1]])}
            if len(skips) == 1:
                more = skips.pop()
                return True if more < 0 else self.one_of(place + more > length for length in self.lengths), place + more
            if all(more < 0 for more in skips) or all(place + more > max(self.lengths) for more in skips):
                return True, place
            return None, place
        ask = {"same": int.__eq__, "less": int.__lt__, "more": int.__gt__}[row[2]]
        return self.one_of(ask(worth, row[3]) for worth in self.worths(boxes[row[1]])), place

    def truth(self, rows):
        number, place, boxes = 0, 0, {}
        while rows[number][0] != "end":
            row = rows[number]
            if row[0] in ("go", "back"):
                number, place = (row[1], place) if row[0] == "go" else (number + 1, 0)
                continue
            goes, behind = self.goes(row, boxes, place)
            if goes is None:
                return None
            if goes:
                number = row[-1]
                continue
            if row[0] == "take":
                places = list(range(place + row[2], place + row[2] + row[3]))
                boxes = {**boxes, row[1]: (places if row[4] == "big" else places[::-1], None, None)}
            if row[0] == "part":
                boxes = {**boxes, row[1]: ([place + row[2]], row[3], row[4])}
            number, place = number + 1, behind
        return rows[number][1]

    def lets(self, one, other, tree):
        if tree[0] == "told":
            return self.truth(one) is tree[1] and self.truth(other) is tree[1]
        if tree[0] == "length":
            sides = [[length for length in self.lengths if (length < tree[1]) == is_less] for is_less in (True, False)]
            return all(sides) and all(Slow(side, self.ranges).lets(one, other, inner) for side, inner in zip(sides, tree[2:]))
        if tree[1] >= min(self.lengths):
            return False
        worths = self.ranges.get(tree[1], range(256))
        sides = [[worth for worth in worths if (worth < tree[2]) == is_less] for is_less in (True, False)]
        return all(sides) and all(Slow(self.lengths, {**self.ranges, tree[1]: side}).lets(one, other, inner)
                                  for side, inner in zip(sides, tree[3:]))


def draw_tame_rows(chance, many):
    """Rows whose numbers have two bytes at most, and skip seldom."""
    while True:
        rows = ()
        for number in range(many - 1):
            row = draw_row(chance, number, many)
            while row[0] == "take" and row[3] > 1 + (chance.random() < 0.15) or row[0] == "skip" and chance.random() < 0.7:
                row = draw_row(chance, number, many)
            rows += (row,)
        rows += (("end", chance.random() < 0.5),)
        if is_rows(rows):
            return rows


def knots_of(tree):
    """All knots' and leaves' ways from the root, as tuples of numbers within the tuples."""
    waiting = [((), tree)]
    while waiting:
        way, knot = waiting.pop()
        yield way, knot
        if knot[0] != "told":
            waiting.append((way + (-1,), knot[-1]))
            waiting.append((way + (-2,), knot[-2]))


def put_at(tree, way, knot):
    if not way:
        return knot
    at = len(tree) + way[0]
    return tree[:at] + (put_at(tree[at], way[1:], knot),) + tree[at + 1:]


def bend(chance, tree):
    """The tree with one knot put otherwise."""
    way, knot = chance.choice(list(knots_of(tree)))
    if knot[0] == "told":
        bent = chance.choice((("told", not knot[1]), ("length", chance.randint(1, 6), knot, knot),
                              ("byte", chance.randint(0, 3), chance.choice((1, 2, 100, 101, 255)), knot, knot)))
    elif knot[0] == "length":
        bent = chance.choice((knot[2], knot[3], ("length", knot[1] + chance.choice((-1, 1)), knot[2], knot[3]), knot[:2] + (knot[3], knot[2])))
    else:
        bent = chance.choice((knot[3], knot[4], knot[:3] + (knot[4], knot[3]), knot[:2] + (knot[2] + chance.choice((-1, 1)),) + knot[3:],
                              knot[:1] + (knot[1] + 1,) + knot[2:]))
    return put_at(tree, way, bent)


class Drawn(unittest.TestCase):
    def test_as_by_sets(self):
        chance = random.Random(150)
        told = {True: 0, False: 0}
        while min(told.values()) < 250:
            one = draw_tame_rows(chance, chance.randint(2, 9))
            word, tree = beside(one, one)
            self.assertEqual(word, "alike")
            if not 1 < len(list(itertools.islice(knots_of(tree), 60))) < 60:
                continue
            for _ in range(6):
                bent = bend(chance, tree) if chance.random() < 0.9 else tree
                is_let = lets_tree(one, one, bent)
                self.assertIs(is_let, Slow(range(121), {}).lets(one, one, bent), (one, bent))
                told[is_let] += 1


class HandedIn(unittest.TestCase):
    def test_by_names(self):
        self.assertIs(lets_tree(one=ALL, other=ALL, thing=YES), True)
        self.assertIs(lets_tree(thing=YES, other=NONE, one=ALL), False)

    def test_a_deep_tree(self):
        tree = YES
        for place in range(119, -1, -1):
            for worth in range(200, 0, -2):
                tree = ("byte", place, worth, YES, tree)
        self.assertIs(lets_tree(ALL, ALL, ("length", 120, YES, tree)), True)

    def test_stands_in_its_file(self):
        self.assertEqual(trees.lets_tree.__module__, "letterbench.trees")


if __name__ == "__main__":
    unittest.main()
