"""Promises 3 (e), 10 and 11 on letters drawn at random, beside a slow way of leading along, and many deeds in a row."""

import copy
import random
import unittest

from lettermaker import Again, draw_bytes, draw_thing
from test_losses import called, drawn, field_called, fields_called
from letterbench.changing import put_in, set_at, taken_out
from letterbench.errors import Barred, NoPath, NoWorth
from letterbench.reading import fields_in, is_good, spreads_of
from letterbench.writing import written


class Stopped(Exception):
    """The slow way's bar."""

    def __init__(self, path):
        self.path = path


def names_of(field):
    return [name for name, _ in field[1]] if field[0] == "bits" else [field[1]]


def hung_on(fields, tag):
    """Whether a field of these hangs on the tag."""
    for field in fields:
        if field[0] == "choice" and field[2] == tag:
            return True
        if field[0] in ("bytes", "carried", "row"):
            length = field[3] if field[0] == "row" else field[2]
            if length[0] == "of" and length[1] == tag:
                return True
    return False


def tag_of(field):
    length = {"bytes": 2, "carried": 2, "row": 3}.get(field[0])
    if length is not None and field[length][0] == "of":
        return field[length][1]
    return None


def worths_of(fields, tag):
    """The worths from a tag's bounds, as far as letters drawn here may want them."""
    for field in fields:
        if field[0] == "number" and field[1] == tag:
            return range(field[4], min(field[5], 600) + 1)
        if field[0] == "bits" and tag in names_of(field):
            return range(2 ** dict(field[1])[tag])
    raise KeyError(tag)


def settled(grammar, kind, tree, path, field):
    """Sets the tag of this thing's field by trying all of its worths, the sums being left out."""
    fields = dict(grammar)[kind]
    for other in fields:
        if other[0] == "sum":
            tree.pop(other[1], None)
    tag = tag_of(field)
    # A choice wants the worth that its tag has, though another one may lead to the same kind.
    is_held = tag is None or any(other[0] == "choice" and other[2] == tag for other in fields)
    tries = [tree] if is_held else [{**tree, tag: worth} for worth in worths_of(fields, tag)]
    fitting = []
    for one in tries:
        try:
            written(grammar, one, kind=kind)
            fitting.append(one)
        except NoWorth:
            pass
    if not fitting:
        raise Stopped(path + (field[1] if tag is None else tag,))
    assert len(fitting) == 1
    tree.update(fitting[0])


def changed_slowly(grammar, kind, tree, steps, path, change):
    """Changes a thing at its place, then all around it, inward first."""
    fields = dict(grammar)[kind]
    field = next(field for field in fields if steps[0] in names_of(field))
    if len(steps) == 1:
        change(tree, fields, path)
    elif field[0] == "row":
        changed_slowly(grammar, field[2], tree[steps[0]][steps[1]], steps[2:], path + steps[:2], change)
    else:
        inner, thing = tree[steps[0]]
        changed_slowly(grammar, inner, thing, steps[1:], path + steps[:1], change)
    settled(grammar, kind, tree, path, field)


def slowly(grammar, tree, steps, change):
    """The letter so changed, or the bar's path."""
    tree = copy.deepcopy(tree)
    try:
        changed_slowly(grammar, grammar[0][0], tree, steps, (), change)
    except Stopped as stop:
        return stop.path
    return ("letter", written(grammar, tree))


def told_by(call, *handed):
    try:
        return ("letter", call(*handed))
    except Barred as bar:
        return bar.path


def places(table, kind, tree, path):
    """All fields of a thing, as tuples (path, field, kind of the thing)."""
    found = []
    for field in table[kind]:
        for name in names_of(field):
            found.append((path + (name,), field, kind))
        if field[0] == "row":
            for number, thing in enumerate(tree[field[1]]):
                found += places(table, field[2], thing, path + (field[1], number))
        elif field[0] in ("choice", "carried"):
            found += places(table, *tree[field[1]], path + (field[1],))
    return found


def worth_at(tree, path):
    for step in path:
        if isinstance(tree, tuple):
            tree = tree[1]
        tree = tree[step]
    return tree


def draw_other(chance, field, name, old):
    """Another worth for a field that is one for it."""
    if field[0] == "number":
        return chance.randint(field[4], field[5])
    if field[0] == "bits":
        return chance.randrange(2 ** dict(field[1])[name])
    many = chance.choice((0, 1, len(old), len(old) + 1, len(old) + 2, chance.randint(0, 12)))
    if field[0] == "text":
        return tuple(byte for byte in draw_bytes(chance, many) if byte != field[2])
    return draw_bytes(chance, field[2][1] if field[2][0] == "is" else many)


def draw_deed(chance, grammar, tree):
    """A place to be set anew and a worth for it; None where there is none."""
    leaves = [place for place in places(dict(grammar), grammar[0][0], tree, ())
              if place[1][0] in ("number", "bits", "bytes", "text")]
    if not leaves:
        return None
    path, field, kind = chance.choice(leaves)
    return path, field, kind, draw_other(chance, field, path[-1], worth_at(tree, path))


def set_slowly(grammar, tree, path, worth):
    def change(thing, fields, prefix):
        if hung_on(fields, path[-1]) and thing[path[-1]] != worth:
            raise Stopped(prefix + (path[-1],))
        thing[path[-1]] = worth
    return slowly(grammar, tree, path, change)


class Settings(unittest.TestCase):
    def test_as_by_the_slow_way(self):
        chance = random.Random(31)
        told = {"letter": 0, "bar": 0, "inner": 0}
        for grammar, letter, tree in drawn(32, 500):
            for _ in range(3):
                deed = draw_deed(chance, grammar, tree)
                if deed is None:
                    continue
                path, _, _, worth = deed
                expected = set_slowly(grammar, tree, path, worth)
                self.assertEqual(told_by(set_at, grammar, letter, path, worth), expected)
                told["letter" if expected[:1] == ("letter",) else "bar"] += 1
                told["inner"] += len(path) > 1
        self.assertGreater(min(told.values()), 50, told)

    def test_the_wished_worth_is_read_and_all_else_stays(self):
        chance = random.Random(33)
        for grammar, letter, tree in drawn(34, 400):
            deed = draw_deed(chance, grammar, tree)
            answer = deed and told_by(set_at, grammar, letter, deed[0], deed[3])
            if not answer or answer[0] != "letter":
                continue
            path, _, _, worth = deed
            told = spreads_of(grammar, answer[1])
            self.assertTrue(is_good(told))
            self.assertNotIn("unknown", [spread[3] for spread in told])
            after = fields_in(grammar, answer[1])
            self.assertEqual(worth_at(after, path), worth)
            table = dict(grammar)
            for other, field, kind in places(table, grammar[0][0], tree, ()):
                around = other[:-1] == path[:len(other) - 1]
                led = around and (field[0] == "sum" or hung_on(table[kind], other[-1]))
                if field[0] not in ("row", "choice", "carried") and other != path and not led:
                    self.assertEqual(worth_at(after, other), worth_at(tree, other))

    def test_each_field_to_its_own_worth(self):
        for grammar, letter, tree in drawn(35, 200):
            for path, field, _ in places(dict(grammar), grammar[0][0], tree, ()):
                if field[0] in ("number", "bits", "bytes", "text"):
                    self.assertEqual(set_at(grammar, letter, path, worth_at(tree, path)), letter)
                else:
                    with self.assertRaises(NoPath):
                        set_at(grammar, letter, path, worth_at(tree, path))

    def test_names_called_otherwise_are_changed_the_same(self):
        chance = random.Random(36)
        for grammar, letter, tree in drawn(37, 200):
            deed = draw_deed(chance, grammar, tree)
            if deed is None:
                continue
            other = tuple((called(name), tuple(map(field_called, inner))) for name, inner in grammar)
            path = tuple(called(step) if isinstance(step, str) else step for step in deed[0])
            expected = told_by(set_at, grammar, letter, deed[0], deed[3])
            if expected[0] != "letter":
                expected = tuple(called(step) if isinstance(step, str) else step for step in expected)
            self.assertEqual(told_by(set_at, other, letter, path, deed[3]), expected)
            self.assertEqual(fields_in(other, letter), fields_called(tree))


class Rows(unittest.TestCase):
    def drawn_rows(self, seed):
        chance = random.Random(seed)
        for grammar, letter, tree in drawn(seed + 1, 2500):
            rows = [place for place in places(dict(grammar), grammar[0][0], tree, ()) if place[1][0] == "row"]
            if rows:
                yield chance, grammar, letter, tree, chance.choice(rows)

    def test_put_in_and_taken_out_as_by_the_slow_way(self):
        many = {"letter": 0, "bar": 0, "out": 0}
        for chance, grammar, letter, tree, (path, field, _) in self.drawn_rows(41):
            things = worth_at(tree, path)
            try:
                _, thing = draw_thing(chance, dict(grammar), field[2])
            except Again:
                continue
            number = chance.randint(0, len(things))
            expected = slowly(grammar, tree, path, lambda around, *_: around[path[-1]].insert(number, thing))
            answer = told_by(put_in, grammar, letter, path, number, thing)
            self.assertEqual(answer, expected)
            if answer[0] == "letter":
                self.assertEqual(taken_out(grammar, answer[1], path, number), letter)
            many["letter" if answer[0] == "letter" else "bar"] += 1
            for number in range(len(things)):
                expected = slowly(grammar, tree, path, lambda around, *_: around[path[-1]].pop(number))
                self.assertEqual(told_by(taken_out, grammar, letter, path, number), expected)
                many["out"] += 1
        self.assertGreater(min(many.values()), 20, many)

    def test_taken_out_and_put_in_again(self):
        for _, grammar, letter, tree, (path, _, _) in self.drawn_rows(43):
            for number, thing in enumerate(worth_at(tree, path)):
                answer = told_by(taken_out, grammar, letter, path, number)
                if answer[0] == "letter":
                    self.assertEqual(put_in(grammar, answer[1], path, number, thing), letter)


class ManyDeeds(unittest.TestCase):
    def test_one_behind_the_other(self):
        chance = random.Random(51)
        done = 0
        for grammar, letter, tree in drawn(52, 60):
            for _ in range(12):
                deed = draw_deed(chance, grammar, tree)
                if deed is None:
                    break
                expected = set_slowly(grammar, tree, deed[0], deed[3])
                answer = told_by(set_at, grammar, letter, deed[0], deed[3])
                self.assertEqual(answer, expected)
                if answer[0] == "letter" and len(answer[1]) < 300:
                    letter = answer[1]
                    tree = fields_in(grammar, letter)
                    done += 1
        self.assertGreater(done, 150)

    def test_fields_on_which_nothing_hangs_in_either_order(self):
        chance = random.Random(53)
        done = 0
        for grammar, letter, tree in drawn(54, 300):
            first = draw_deed(chance, grammar, tree)
            second = draw_deed(chance, grammar, tree)
            if first is None or first[0] == second[0]:
                continue
            letters = []
            for one, other in ((first, second), (second, first)):
                answer = told_by(set_at, grammar, letter, one[0], one[3])
                if answer[0] == "letter":
                    answer = told_by(set_at, grammar, answer[1], other[0], other[3])
                letters.append(answer)
            if letters[0][0] == "letter" == letters[1][0]:
                self.assertEqual(letters[0], letters[1])
                done += 1
        self.assertGreater(done, 50)


if __name__ == "__main__":
    unittest.main()
