"""Promise 2: all that the interface lists is there, in its file, and takes its arguments by these names."""

import importlib
import inspect
import unittest

# By files the functions and classes, each with its arguments as the interface writes them.
LISTED = {
    "numbers": ("is_word(thing)", "is_whole(thing)", "is_bytes(thing)", "bytes_of(number, size, *, order='big')", "number_in(some, *, order='big')",
                "sum_size(rule)", "sum_by(rule, some)", "sum_bytes(rule, some)"),
    "grammars": ("look_at_grammar(thing)", "kinds_of(grammar)", "fields_of(grammar, kind)", "least_of(grammar, kind)"),
    "reading": ("spreads_of(grammar, some, *, kind=None)", "is_good(spreads)", "fields_in(grammar, some, *, kind=None)"),
    "writing": ("written(grammar, fields, *, kind=None)",),
    "changing": ("set_at(grammar, some, path, worth)", "put_in(grammar, some, path, number, fields)", "taken_out(grammar, some, path, number)"),
    "filters": ("look_at_filter(grammar, thing)", "takes(grammar, wish, some)"),
    "rows": ("is_rows(thing)", "run(rows, some)"),
    "compiling": ("rows_for(grammar, wish)",),
    "trees": ("lets_tree(one, other, thing)",),
    "comparing": ("beside(one, other)", "look_at_rows(grammar, wish, thing)", "compared(grammar, one, other)"),
    "streams": ("Stream(*, rule='first')", "together(pieces, *, rule='first')", "of_two(one, other, *, rule='first')"),
    "upper": ("is_carrying(grammar, thing)", "pieces_of(grammar, carrying, letters)", "upper_of(grammar, runs, *, end=None)"),
    "ends": ("look_at_end(thing)", "look_at_catch(thing)"),
    "talks": ("talk_of(ends, catch)", "lets_table(ends, catch, thing)", "way_of(ends, catch)", "places_at(ends, catch)", "sureness(ends, catch)", "wanted(ends, catch)"),
    "relations": ("is_relation(thing)", "holds(relation, talk)", "found_in(talks)", "worth_by(relations, talk, place)"),
    "replay": ("Replay(talk, relations, side)", "replayed(talk, relations, side, answer)"),
    "makes": ("look_at_make(thing)", "step_of(make, stand, letter)", "answers(make, letters)", "stands_of(make)", "lots_of(make)"),
    "pairs": ("compared_makes(one, other)", "lets_pairs(one, other, thing)", "parts_them(one, other, thing)"),
    "sheet": ("look_at_setting(thing)", "look_at_lot(thing)", "sheet_of(setting, lot)"),
    "judge": ("judged(setting, lot, thing)", "is_sheet(setting, lot, thing)", "row_at(sheet, letter, byte)", "bytes_at(sheet, lot, side, number, path)",
              "upper_at_step(sheet, lot, step)"),
    "book": ("Book(setting, *, room=100)",),
    "texts": ("show_grammar(grammar)", "show_end(end)", "show_filter(grammar, wish)", "show_rows(rows)", "show_lot(lot)", "read_grammar(text)", "read_end(text)",
              "read_filter(grammar, text)", "read_rows(text)", "read_lot(text)"),
    "desk": ("Desk()",),
}
METHODS = {
    ("streams", "Stream"): ("take(self, pieces)", "told(self)", "pieces(self)", "rule(self)", "twin(self)", "__len__(self)", "__eq__(self, other)"),
    ("replay", "Replay"): ("due(self)", "speak(self)", "hear(self, fields, *, anyway=False)", "talk(self)", "sources(self)", "relations(self)", "twin(self)",
                           "__len__(self)", "__eq__(self, other)"),
    ("book", "Book"): ("take(self, catches, *, watcher=None)", "turn(self, part, thing)", "sheet(self)", "held(self)", "log(self)", "gone(self)", "settings(self)",
                       "space(self)", "pieces_of_side(self, side)", "twin(self)", "__len__(self)", "__eq__(self, other)"),
    ("desk", "Desk"): ("say(self, row)", "__len__(self)"),
}
CONSTANTS = {("rows", "MOST_ROWS"): 600, ("trees", "MOST_BYTES"): 120, ("streams", "RULES"): ("first", "later")}


def file_named(name):
    return importlib.import_module("letterbench." + name)


class Interface(unittest.TestCase):
    def test_functions_and_classes(self):
        for name, listed in LISTED.items():
            for one in listed:
                word = one.split("(")[0]
                thing = getattr(file_named(name), word)
                self.assertEqual(thing.__module__, "letterbench." + name, word)
                self.assertEqual(word + str(inspect.signature(thing)), one)

    def test_methods_stand_in_the_class_itself(self):
        for (name, word), listed in METHODS.items():
            table = vars(getattr(file_named(name), word))
            for one in listed:
                method = one.split("(")[0]
                self.assertIn(method, table, word)
                self.assertEqual(method + str(inspect.signature(table[method])), one)

    def test_constants(self):
        for (name, word), worth in CONSTANTS.items():
            self.assertEqual(getattr(file_named(name), word), worth)


if __name__ == "__main__":
    unittest.main()
