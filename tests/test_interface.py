"""The interface: each name stands in its file, under its parameters' names; each class has its methods; each error is told."""

import importlib
import inspect
import pathlib
import unittest

import guardedwires
from guardedwires.errors import WireError
from guardedwires.guards import Guard

FOLDER = pathlib.Path(guardedwires.__file__).parent

ERRORS = """BadWord, BadLetters, BadLot, BadGates, BadFrame, NotKept, OtherWires, BadWords, Bent, BadNumber, BadTable, BadMakers,
BadBase, BadGuard, Crosses, Made, NoWord, BadWires, BadOther, Wide, MustNot, BadRow, BadFaults, BadWeights, Never, Reads, BadLooks,
OtherMany, OtherLetters, NoWords, BadHolders, BadNumbers, BadSide, BadNet, BadWire, Keeps, BadHeard, NoWire, BadFlow, Out, BadSome,
BadTurns, NotDone, BadWish, BadOffers, BadWishes, BadChoice, BadName, Held, Full, BadGate, NoMark, NothingToUndo, NothingToRedo,
NoTrial, BadJournal, BadLine"""

# For each module its functions, each with its parameters; shows_ ones have a value more than the function behind their name.
FUNCTIONS = {
    "words": "passes one other, product one other, joined words, contrary word, touched word, independent words, shows_independent",
    "gates": "led word gates, back word gates, table wires gates, same_gates wires gates other, shows_same_gates, gates_of rows, shows_gates_of",
    "spans": "rank wires makers, firsts wires makers, made wires makers letters, shows_made, within wires makers others, shows_within, "
             "parted wires makers, shows_parted, sizes wires makers, span_gates wires makers others, shows_span_gates, "
             "word_gates wires words others, shows_word_gates",
    "guards": "group guard, same_group guard other, shows_same_group, in_steps guard, led_guard guard gates, exchanged guard wires, "
              "side_by_side guard other",
    "unpassing": "carried wires makers, bare_frame wires makers, shows_bare_frame, lone_guard wires makers, bare_on wires makers lot, "
                 "shows_bare_on, dressed_on wires makers lot, shows_dressed_on, spared wires makers lot, shows_spared, least_dressed wires makers",
    "kinds": "kind guard word, shows_kind, signs guard letters, alike_beside guard word other, shows_alike_beside",
    "frames": "frame guard, shows_frame, told_in guard pairs word, same_frame guard pairs other, turned_frame guard pairs words, shows_turned_frame",
    "losing": "lying guard lot, shows_lying, cleaned guard lot letters, shows_cleaned, lost guard lot, shows_lost, moved guard lot pairs, "
              "shows_moved, least_lots guard, least_word guard, shows_least_word, apart guard one other, shows_apart",
    "counting": "of_group guard, of_passing guard, other_row row, by_lots guard",
    "mending": "mended guard faults, shows_mended, best_table guard faults weights, shows_best_table, answered guard table letters, "
               "most_mended guard, shows_most_mended, two_faults guard most, shows_two_faults",
    "looks": "foretold guard letters, looked guard word, read guard word, went guard pairs word, along guard looks, gone guard pairs looks",
    "fewest": "absent_and_crossing guard goal, fewest guard goal, shows_fewest, numbers guard goal looks, flips guard goal, shows_flips",
    "steering": "turned_by guard pairs word, shows_turned_by, steer guard pairs other, shows_steer",
    "reading": "behind guard looks, reads guard looks, shows_reads, first_reading guard looks, read_alike guard looks other, shows_read_alike",
    "holders": "told_on guard lot, shows_told_on, can_tell guard holders some, least_holders guard holders, blind_holders guard holders",
    "sharing": "shared guard side, brought guard side, shows_brought",
    "nets": "net_guard many net, as_net guard, shows_as_net, cut many net lot, cuts many net",
    "turning": "turned many net wire, one_net many net other, shows_one_net, all_turned many net, fewest_ties many net, shows_fewest_ties, "
               "looked_net many net wire heard, shows_looked_net",
    "flows": "last guard lot wire, shows_last, flow guard lot, shows_flow, fewest_layers guard lot, shows_fewest_layers, owed guard wires words heard",
    "knobs": "working guard row, quarter_turned guard row some word, same_row guard row other, shows_same_row, depth guard row, shows_depth",
    "wirework": "keeps guard turns, shows_keeps, kept_turns guard, shows_kept_turns, done_by guard pairs turns, work guard pairs wish, shows_work",
    "offers": "choices guard offers, by guard choice",
    "wishes": "comes_true guard wish",
    "choosing": "cheapest guard offers wishes, shows_cheapest",
    "journals": "journal machine, read_journal text",
}

# For each class its module, parameters, attributes, and methods with their parameters; * is ahead of those that are passed by name.
CLASSES = {
    "Guard": ("guards", "text", "text wires words kept",
              "with_word word, without number, __len__, __contains__, __eq__"),
    "Machine": ("machine", "guard", "first guard marks read spoilt done",
                "mark name word, gate gate, look word, flip letters, lose lot, bring guard, off name lot, shows_off name lot value, told_by lot, "
                "undo, redo, trial, keep, tried look *keep, copy, __len__, __contains__, __eq__"),
    "Desk": ("desk", "text", "machine", "say line"),
}
TEXTS = {"Guard": "wires 1", "Machine": Guard("wires 1"), "Desk": "wires 1\nmachine"}


def parameters(function):
    """Their names, with * ahead of those that are passed by name alone."""
    told = inspect.signature(function).parameters.values()
    return ["*" * (one.kind is one.KEYWORD_ONLY) + one.name for one in told]


def without_self(function):
    return parameters(function)[1:]


class Interface(unittest.TestCase):

    def test_functions(self):
        for name, told in FUNCTIONS.items():
            module, ahead = importlib.import_module("guardedwires." + name), {}
            for one in told.split(", "):
                function, *names = one.split(" ")
                if function.startswith("shows_"):
                    names = ahead[function[len("shows_"):]] + ["value"]
                ahead[function] = names
                found = vars(module)[function]
                self.assertTrue(inspect.isfunction(found))
                self.assertEqual(found.__module__, "guardedwires." + name)
                self.assertEqual(pathlib.Path(inspect.getsourcefile(found)), FOLDER / (name + ".py"))
                self.assertEqual(parameters(found), names, function)

    def test_all_that_shows_is_told(self):
        """Each function of the modules whose name begins with shows_ is one of the interface."""
        for name, told in FUNCTIONS.items():
            module = importlib.import_module("guardedwires." + name)
            shown = {its for its in vars(module) if its.startswith("shows_") and vars(module)[its].__module__ == module.__name__}
            self.assertEqual(shown, {one for one in told.split(", ") if one.startswith("shows_")})

    def test_classes(self):
        for name, (where, names, attributes, methods) in CLASSES.items():
            found = vars(importlib.import_module("guardedwires." + where))[name]
            self.assertEqual(found.__module__, "guardedwires." + where)
            self.assertEqual(list(inspect.signature(found).parameters), names.split(" "))
            for method in methods.split(", "):
                its, *rest = method.split(" ")
                self.assertIn(its, vars(found))
                if not its.startswith("__"):
                    self.assertEqual(without_self(vars(found)[its]), rest, its)
            one = found(TEXTS[name])
            for attribute in attributes.split(" "):
                self.assertTrue(hasattr(one, attribute))

    def test_errors(self):
        module = importlib.import_module("guardedwires.errors")
        names = ERRORS.replace("\n", " ").split(", ")
        self.assertEqual(len(names), len(set(names)))
        for name in names:
            error = vars(module)[name]
            self.assertEqual((error.__bases__, error.__module__), ((WireError,), "guardedwires.errors"))
            for value in (0, None, ("a", [1]), {}, error):
                self.assertIs(error(value).value, value)
        self.assertEqual(WireError.__bases__, (ValueError,))
        told = {name for name, one in vars(module).items() if inspect.isclass(one) and issubclass(one, Exception)}
        self.assertEqual(told, set(names) | {"WireError"})

    def test_files_can_be_written_in_sequence(self):
        """No module of the interface imports one that stands behind it there."""
        names = ["errors"] + list(FUNCTIONS)
        names[names.index("journals"):] = ["machine", "journals", "desk"]
        for number, name in enumerate(names):
            source = (FOLDER / (name + ".py")).read_text(encoding="utf-8")
            for later in names[number + 1:]:
                self.assertNotIn("from guardedwires." + later + " import", source, name)


if __name__ == "__main__":
    unittest.main()
