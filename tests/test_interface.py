"""The interface: the names, the files in which they are defined, their arguments; by position and by name."""

import copy
import importlib
import inspect

from tests.cases import Case
from tests.pair_samples import TOLD
from tests.samples import EVERY, SURE
from tests.task_samples import APART
from twofarplayers.bench import Bench
from twofarplayers.desk import Desk
from twofarplayers.errors import PlayError
from twofarplayers.laws import Law
from twofarplayers.pairs import Pair
from twofarplayers.tasks import Task

FUNCTIONS = {
    "laws": {
        "after": ("rule", "word"), "lets": ("rule", "loss"), "begins": ("rule", "word"), "some_loss": ("rule",),
        "shows_some_loss": ("rule", "value")},
    "losses": {
        "least": ("loss",), "are_alike": ("one", "other"), "letters_of": ("loss", "many"), "tail": ("loss",),
        "shifted": ("loss", "word")},
    "rows": {
        "place": ("word",), "word_at": ("rounds", "at"), "numbers": ("word",), "neighbours": ("word",),
        "blind": ("one", "other"), "whole_row": ("rounds",)},
    "twins": {"twins": ("loss",), "are_twins": ("one", "other"), "distance": ("one", "other", "rounds")},
    "verdicts": {
        "bars_fair": ("rule",), "bars_twins": ("rule",), "can_agree": ("rule",), "shows_can_agree": ("rule", "value")},
    "rounds": {
        "barred_beginning": ("rule",), "least_rounds": ("rule",), "why_rounds": ("rule",),
        "shows_why_rounds": ("rule", "value"), "many_beginnings": ("rule", "rounds"), "barred_places": ("rule", "rounds"),
        "cut": ("rule", "rounds"), "ended": ("rule", "rounds", "wishes", "word")},
    "talks": {
        "mark": ("barred", "rounds"), "talk": ("barred", "wishes", "loss", "most"), "talked": ("barred", "loss", "rounds")},
    "pairs": {
        "begun": ("pair", "wishes"), "heard": ("pair", "states", "fate"), "played": ("pair", "wishes", "word"),
        "ends": ("pair", "wishes", "loss")},
    "judging": {
        "judged": ("rule", "pair"), "shows_judged": ("rule", "pair", "value"), "latest": ("rule", "pair"),
        "outcomes": ("rule", "pair", "wishes")},
    "nearness": {
        "near": ("worths", "word"), "gap": ("worths", "rounds"), "needed": ("worths", "distance"), "widest": ("ends",)},
    "tasks": {
        "allowed": ("task", "one", "other"), "solved": ("task", "rounds"), "shows_solved": ("task", "rounds", "value"),
        "least_solving": ("task", "most")},
    "lawlots": {
        "turned": ("rule",), "both": ("rule", "other"), "either": ("rule", "other"), "barring": ("rule", "loss"),
        "lets_all": ("rule", "other"), "shows_lets_all": ("rule", "other", "value")},
    "journals": {"journal": ("bench",), "read_journal": ("text",)},
}
CLASSES = {
    "laws": {"Law": ("__init__", "__eq__", "__len__")}, "pairs": {"Pair": ("__init__", "__eq__")},
    "tasks": {"Task": ("__init__", "__eq__")},
    "bench": {"Bench": (
        "__init__", "__eq__", "turn", "bar", "meet", "widen", "undo", "redo", "trial", "keep", "tried", "copy")},
    "desk": {"Desk": ("__init__", "say")}}
# The parameters of methods behind their object; each of them may be told by its name.
METHODS = {
    "turn": (), "bar": ("loss",), "meet": ("text",), "widen": ("text",), "undo": (), "redo": (), "trial": (), "keep": (),
    "tried": ("look", "keep"), "copy": (), "say": ("line",), "__init__": ("text",)}
ATTRIBUTES = {
    Law: ("text", "names", "often"), Pair: ("text", "first", "second"), Task: ("text", "first", "second", "pairs"),
    Bench: ("rule", "done", "verdict"), Desk: ("bench",)}
TEXT = EVERY.text
RIGHT = {
    "rule": EVERY, "word": "nf", "loss": ("n", "fs"), "value": ("", "n"), "one": "nf", "other": "fs", "many": 3,
    "rounds": 2, "at": 4, "barred": (("", "nf"),), "wishes": (0, 1), "most": 5, "pair": Pair(TOLD), "states": ("o", "w"),
    "fate": "f", "worths": ((1, 2), (-3, 1)), "distance": (1, 100), "ends": ((0, 1), (1, 2)), "task": Task(APART),
    "bench": Bench(TEXT), "text": "bench\n" + TEXT + "\nturn\nbar n s"}
OBJECTS = ("rule", "pair", "task", "bench")
# Where other ones are right.
LOSSES = {"one": ("f", "s"), "other": ("nn", "f")}
LAWS = {"other": SURE}
OTHERS = {
    "are_alike": LOSSES, "are_twins": LOSSES, "distance": LOSSES, "cut": {"rule": SURE}, "ended": {"rule": SURE, "word": "nn"},
    "latest": {"rule": SURE}, "allowed": {"one": "x", "other": "y"}, "both": LAWS, "either": LAWS, "lets_all": LAWS,
    "shows_lets_all": LAWS}


def right_values(name, parameters):
    """Right arguments for the function of this name, by their names."""
    return {parameter: OTHERS.get(name, {}).get(parameter, RIGHT[parameter]) for parameter in parameters}


def free_ones(name, parameters):
    """The parameters of the function of this name that accept any value."""
    objects = OBJECTS + ("other",) if OTHERS.get(name) is LAWS else OBJECTS
    return [parameter for parameter in parameters if parameter not in objects]


def refusal(function, *row, **told):
    """The error of the program, with its value, with which the call is refused; None if it tells something."""
    try:
        function(*row, **told)
    except PlayError as error:
        return type(error), error.value
    return None


class Interface(Case):
    def each_function(self):
        for module, table in FUNCTIONS.items():
            for name, parameters in table.items():
                yield module, name, getattr(importlib.import_module("twofarplayers." + module), name), parameters

    def test_functions_are_defined_in_their_files(self):
        for module, name, function, parameters in self.each_function():
            self.assertTrue(inspect.isfunction(function))
            self.assertEqual((function.__module__, function.__name__), ("twofarplayers." + module, name))
            self.assertEqual(tuple(inspect.signature(function).parameters), parameters)

    def test_classes_are_defined_in_their_files(self):
        for module, table in CLASSES.items():
            for name, methods in table.items():
                found = getattr(importlib.import_module("twofarplayers." + module), name)
                self.assertEqual((found.__module__, found.__name__), ("twofarplayers." + module, name))
                for method in methods:
                    self.assertIn(method, vars(found))

    def test_parameters_of_methods(self):
        for module, table in CLASSES.items():
            for name, methods in table.items():
                found = getattr(importlib.import_module("twofarplayers." + module), name)
                for method in methods:
                    if method in METHODS:
                        told = inspect.signature(getattr(found, method)).parameters
                        self.assertEqual(tuple(told)[1:], METHODS[method])
        keep = inspect.signature(Bench.tried).parameters["keep"]
        self.assertEqual((keep.kind, keep.default), (inspect.Parameter.KEYWORD_ONLY, False))

    def test_attributes_are_set_when_an_object_is_created(self):
        texts = {Law: TEXT, Pair: TOLD, Task: APART, Bench: TEXT, Desk: "bench\n" + TEXT}
        for of_class, names in ATTRIBUTES.items():
            for found in (of_class(texts[of_class]), of_class(text=texts[of_class])):
                self.assertLessEqual(set(names), set(vars(found)))
                self.assertEqual(vars(found).get("text", texts[of_class]), texts[of_class])

    def test_arguments_by_position_and_by_name(self):
        for _, name, function, parameters in self.each_function():
            told = right_values(name, parameters)
            row = [told[parameter] for parameter in parameters]
            by_position = function(*row)
            self.assertEqual(by_position, function(**told))
            self.assertEqual(by_position, function(*row[:1], **{word: told[word] for word in parameters[1:]}))
            self.assertEqual(by_position, function(**dict(reversed(list(told.items())))))

    def test_nothing_handed_in_is_changed(self):
        wrong = [[], ["n", "f"], {}, {"n": ["f"]}, [["n"], {"f": [1]}], (["n"], {"f": []}), ("", ["n"])]
        for _, name, function, parameters in self.each_function():
            for parameter in free_ones(name, parameters):
                for value in wrong:
                    told = {**right_values(name, parameters), parameter: value}
                    kept = copy.deepcopy(value)
                    try:
                        function(**told)
                    except ValueError as error:
                        # Of a text that is none a number is told, of wishes that cannot be together both.
                        self.assertTrue(error.value is value or type(error).__name__ in ("NoPair", "BadJournal"))
                    self.assertEqual(value, kept)
        self.assertEqual(TEXT, "law\nstate a often\non n a\non f a\non s a")
        self.assertEqual(vars(RIGHT["rule"]), vars(Law(EVERY.text)))
        self.assertEqual(vars(RIGHT["task"]), vars(Task(APART)))
        self.assertEqual([vars(machine) for machine in RIGHT["pair"].machines], [vars(machine) for machine in Pair(TOLD).machines])

    def test_the_same_refusals_by_position_and_by_name_and_again(self):
        for _, name, function, parameters in self.each_function():
            told = right_values(name, parameters)
            self.assertIsNone(refusal(function, **told))
            for parameter in free_ones(name, parameters):
                for value in (None, -1, "x", ("x", "n"), (2, 3), 10 ** 11):
                    wrong = {**told, parameter: value}
                    row = [wrong[word] for word in parameters]
                    found = refusal(function, **wrong)
                    # Functions called shows_.. refuse no value; the others all refuse None.
                    if parameter == "value" or value is None:
                        self.assertEqual(found is None, parameter == "value")
                    self.assertEqual(refusal(function, *row), found)
                    self.assertEqual(refusal(function, *row), found)
