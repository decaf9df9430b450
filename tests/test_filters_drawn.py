"""Promise 12 on grammars and bytes drawn at random: which paths there are, and what is taken, by the spreads alone."""

import itertools
import random
import unittest

from lettermaker import draw_bytes, draw_letter
from test_losses import called, drawn, field_called
from letterbench.errors import NoFilter, NoGrammar
from letterbench.filters import look_at_filter, takes
from letterbench.grammars import look_at_grammar
from letterbench.reading import spreads_of

WORDS = ("same", "less", "more")


def names_of(field):
    return [name for name, _ in field[1]] if field[0] == "bits" else [field[1]]


def goes_to_rest(table, field):
    if field[0] == "choice":
        return any(goes_to_rest(table, inner) for _, kind in field[3] for inner in table[kind])
    return ("rest",) in field


def is_barred(field):
    return field[0] in ("row", "text", "carried", "sum", "choice") or field[-1] == ("rest",)


def is_step(table, fields, number, words):
    field = fields[number]
    kept_short = field[0] == "choice" and len(fields) == number + 2 and fields[-1][0] == "sum" and goes_to_rest(table, field)
    return field[0] in words and not any(map(is_barred, fields[:number])) and not kept_short


def is_path(table, kinds, path, words):
    """Whether a path from these kinds on is one to fields of these sorts."""
    steps = [(table[kind], number) for kind in kinds for number, field in enumerate(table[kind]) if path[0] in names_of(field)]
    wanted = words if len(path) == 1 else ("choice",)
    if not steps or not all(is_step(table, fields, number, wanted) for fields, number in steps):
        return False
    if len(path) == 1:
        return True
    behind = [kind for fields, number in steps for _, kind in fields[number][3]]
    return is_path(table, behind, path[1:], words)


def draw_plain(chance, name, tags):
    """A number, bits or bytes, seldom something that a filter doesn't go over."""
    word = chance.choice(("number", "number", "bits", "bytes", "bytes") + ("text", "sum") * (chance.random() < 0.15))
    if word == "number":
        tags.append(name)
        least = chance.choice((0, 0, 1))
        return ("number", name, chance.choice((1, 1, 2)), chance.choice(("big", "small")), least, least + chance.randint(0, 6))
    if word == "bits":
        tags.extend((name, name + "x"))
        return ("bits", ((name, 3), (name + "x", 5)))
    if word == "bytes":
        of_tag = ("of", chance.choice(tags), chance.randint(1, 3), chance.randint(-3, 3)) if tags else ("is", 2)
        return ("bytes", name, chance.choice((("is", chance.randint(0, 3)), of_tag)))
    return ("text", name, 0) if word == "text" else ("sum", name, "plain")


def draw_choosing_kind(chance, name, kinds):
    """A kind whose last field, or last but one, often is a choice; names are often those of other kinds, too."""
    tags = []
    fields = [draw_plain(chance, field, tags) for field in chance.sample("abef", chance.randint(1, 3))]
    if kinds and tags and chance.random() < 0.9:
        worths = chance.sample(range(5), chance.randint(1, 4))
        ways = tuple((worth, chance.choice(kinds)) for worth in worths)
        fields.append(("choice", chance.choice("cccd"), chance.choice(tags), ways))
        fields += [("sum", "s", "mixed")] * (chance.random() < 0.3)
    elif chance.random() < 0.2:
        fields.append(("bytes", "z", ("rest",)))
    return (name, tuple(fields))


def choosing(seed, many):
    """So many grammars with choices, each with a good letter."""
    chance = random.Random(seed)
    found = []
    while len(found) < many:
        grammar = ()
        for name in ("ka", "kb", "kc", "kd", "ke", "kf"):
            grammar = (draw_choosing_kind(chance, name, [kind for kind, _ in grammar]),) + grammar
        try:
            look_at_grammar(grammar)
        except NoGrammar:
            continue
        letter = draw_letter(chance, grammar)
        if letter is not None:
            found.append((grammar, letter[0]))
    return found


def is_filter(call, grammar, wish):
    try:
        call(grammar, wish)
    except NoFilter:
        return False
    return True


def all_paths(grammar):
    """All paths of up to four names that might be some, the longer ones by choices' names alone ahead."""
    names = sorted({name for _, fields in grammar for field in fields for name in names_of(field)})
    choices = sorted({field[1] for _, fields in grammar for field in fields if field[0] == "choice"})
    for many in range(4):
        for ahead in itertools.product(choices, repeat=many):
            for name in names:
                yield ahead + (name,)


def worth_by_spreads(grammar, spreads, path):
    """The worth at a path, of a choice its kind, None where it isn't there: by the spreads and the grammar alone."""
    table = dict(grammar)
    told = {(path, what): worth for _, _, path, what, worth in spreads}
    kind = grammar[0][0]
    for depth, name in enumerate(path):
        ahead = path[:depth]
        worths = {}
        for field in table[kind]:
            if name in names_of(field) and field[0] == "choice":
                break
            here = ahead + (names_of(field)[0],)
            if field[0] == "number" and (here, "number") in told:
                worths[field[1]] = told[here, "number"]
            elif field[0] == "bits" and (here, "bits") in told:
                worths.update(zip(names_of(field), told[here, "bits"]))
            elif (here, field[0]) not in told:
                return None
            if name in worths:
                return worths[name]
        else:
            return None
        kind = dict(field[3]).get(worths[field[2]])
        if depth == len(path) - 1 or kind is None:
            return kind
    return None


def is_taken(grammar, wish, spreads):
    if wish[0] == "yes":
        return True
    if wish[0] == "not":
        return not is_taken(grammar, wish[1], spreads)
    if wish[0] in ("and", "or"):
        both = [is_taken(grammar, inner, spreads) for inner in wish[1:]]
        return all(both) if wish[0] == "and" else any(both)
    worth = worth_by_spreads(grammar, spreads, wish[1])
    if wish[0] == "there":
        return worth is not None
    if wish[0] == "kind":
        return worth == wish[2]
    if worth is None:
        return False
    return {"same": worth == wish[3], "less": worth < wish[3], "more": worth > wish[3]}[wish[2]]


def draw_leaf(chance, grammar, numbers, choices):
    if choices and chance.random() < 0.4:
        return ("kind", chance.choice(choices), chance.choice(grammar)[0])
    if numbers and chance.random() < 0.9:
        path = chance.choice(numbers)
        if chance.random() < 0.3:
            return ("there", path)
        return ("is", path, chance.choice(WORDS), chance.choice((0, 1, 2, 3, 4, 5, 100, 255, chance.randrange(300), 65535)))
    return ("yes",)


def draw_filter(chance, leaf, depth, many):
    """A filter of at most so many tuples."""
    word = chance.choice(("leaf", "not", "and", "or")) if depth > 1 else "leaf"
    if word == "not" and many > 1:
        return ("not", draw_filter(chance, leaf, depth - 1, many - 1))
    if word in ("and", "or") and many > 2:
        one = chance.randint(1, many - 2)
        return (word, draw_filter(chance, leaf, depth - 1, one), draw_filter(chance, leaf, depth - 1, many - 1 - one))
    return leaf()


def wish_called(wish):
    if wish[0] in ("not", "and", "or"):
        return wish[:1] + tuple(map(wish_called, wish[1:]))
    if wish[0] == "yes":
        return wish
    path = tuple(map(called, wish[1]))
    if wish[0] == "kind":
        return ("kind", path, called(wish[2]))
    return wish[:1] + (path,) + wish[2:]


def paths_of(grammar):
    """The paths to numbers and parts, and those to choices."""
    table = dict(grammar)
    paths = list(all_paths(grammar))
    numbers = [path for path in paths if is_path(table, [grammar[0][0]], path, ("number", "bits"))]
    choices = [path for path in paths if is_path(table, [grammar[0][0]], path, ("choice",))]
    return numbers, choices


class Paths(unittest.TestCase):
    def test_just_these_are_paths(self):
        many = {"numbers": 0, "choices": 0, "deep": 0, "none": 0}
        grammars = [grammar for grammar, _, _ in drawn(61, 80)] + [grammar for grammar, _ in choosing(64, 80)]
        for grammar in grammars:
            table = dict(grammar)
            first = [grammar[0][0]]
            for path in all_paths(grammar):
                is_number = is_path(table, first, path, ("number", "bits"))
                is_choice = is_path(table, first, path, ("choice",))
                self.assertEqual(is_filter(look_at_filter, grammar, ("is", path, "less", 5)), is_number)
                self.assertEqual(is_filter(look_at_filter, grammar, ("there", path)), is_number)
                self.assertEqual(is_filter(look_at_filter, grammar, ("kind", path, grammar[-1][0])), is_choice)
                many["numbers"] += is_number
                many["choices"] += is_choice
                many["deep"] += is_number and len(path) > 2
                many["none"] += not is_number and not is_choice
        self.assertGreater(min(many.values()), 10, many)


class Taking(unittest.TestCase):
    def bytes_near(self, chance, letter):
        yield letter
        yield letter[:chance.randint(0, len(letter))]
        yield letter + draw_bytes(chance, 3)
        yield draw_bytes(chance, chance.randint(0, 30))
        yield tuple(byte % 5 for byte in draw_bytes(chance, chance.randint(0, 30)))
        if letter:
            place = chance.randrange(len(letter))
            yield letter[:place] + (chance.randrange(8),) + letter[place + 1:]

    def test_as_by_the_spreads(self):
        chance = random.Random(62)
        truths = {True: 0, False: 0}
        for grammar, letter in choosing(63, 150) + [(grammar, letter) for grammar, letter, _ in drawn(65, 60)]:
            numbers, choices = paths_of(grammar)
            wishes = [("there", path) for path in numbers]
            for _ in range(6):
                wishes.append(draw_filter(chance, lambda: draw_leaf(chance, grammar, numbers, choices), 6, 12))
            other = tuple((called(name), tuple(map(field_called, inner))) for name, inner in grammar)
            for some in self.bytes_near(chance, letter):
                spreads = spreads_of(grammar, some)
                for wish in wishes:
                    truth = takes(grammar, wish, some)
                    self.assertIs(truth, is_taken(grammar, wish, spreads))
                    self.assertIs(takes(other, wish_called(wish), some), truth)
                    truths[truth] += 1
        self.assertGreater(min(truths.values()), 3000, truths)


if __name__ == "__main__":
    unittest.main()
