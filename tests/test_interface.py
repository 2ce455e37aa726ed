"""The names and arguments that the document promises, and what it promises over the whole program."""

import copy
import importlib
import inspect
import pathlib
import subprocess
import sys
import unittest

from faultwhy import errors
from faultwhy.answering import answer, write_answer
from faultwhy.playing import play_work
from faultwhy.works import read_work
from tests.helper import asked

FUNCTIONS = {
    "words.is_name": "word", "words.is_number": "word", "works.read_work": "text", "showing.write_work": "work",
    "forcing.forced": "sort number way pins", "pieces.pieces_of": "part turns", "ordering.order_of": "work",
    "playing.play_work": "work inputs modes", "reckoning.reckon": "work turns readings modes",
    "clashing.least_clash": "work turns readings names", "covering.least_covers": "family",
    "explaining.all_reasons": "work turns readings", "explaining.sure_parts": "work explanations",
    "explaining.cleared_parts": "work explanations", "naming.named_ways": "work turns readings names",
    "asking.next_reading": "work turns readings explanations", "answering.answer": "work_text deeds_text",
    "answering.write_answer": "told",
}
METHODS = {
    "__init__": "work turns", "put": "wire turn value", "take_back": "wire turn", "standing": "", "clashes": "",
    "explanations": "", "next_place": "",
}
REFUSALS = {
    "Unread": "row", "Twice": "row", "NoName": "row", "Mismatch": "row", "Taken": "row", "TooBig": "row", "Ring": "names",
    "TooGreat": "part turn", "TooMany": None, "BadTurns": None, "NoPlace": None, "Shut": None, "BadValue": None,
    "AlreadyRead": None, "NotRead": None,
}
ROOT = pathlib.Path(__file__).resolve().parent.parent


def arguments(function):
    return [name for name in inspect.signature(function).parameters if name != "self"]


class Interface(unittest.TestCase):
    def test_functions(self):
        for name in FUNCTIONS:
            module, function = name.split(".")
            with self.subTest(name):
                found = getattr(importlib.import_module("faultwhy." + module), function)
                self.assertEqual(arguments(found), FUNCTIONS[name].split())

    def test_the_log(self):
        log = importlib.import_module("faultwhy.logs").Log
        for name in METHODS:
            with self.subTest(name):
                self.assertEqual(arguments(getattr(log, name)), METHODS[name].split())

    def test_refusals(self):
        for name in REFUSALS:
            if REFUSALS[name]:
                with self.subTest(name):
                    self.assertEqual(arguments(getattr(errors, name)), REFUSALS[name].split())

    def test_there_are_no_other_refusals(self):
        found = {name for name, thing in vars(errors).items() if inspect.isclass(thing)}
        self.assertEqual(found, set(REFUSALS) | {"FaultError"})

    def test_each_module_stands_by_itself(self):
        for path in sorted((ROOT / "faultwhy").glob("*.py")):
            name = "faultwhy" if path.stem == "__init__" else "faultwhy." + path.stem
            with self.subTest(name):
                told = subprocess.run([sys.executable, "-W", "error", "-B", "-c", "import " + name], cwd=ROOT,
                                      capture_output=True, text=True)
                self.assertEqual((told.returncode, told.stdout, told.stderr), (0, "", ""))


class Whole(unittest.TestCase):
    """From a work to its answer, as point 1 tells it."""

    WORK = """
        wire in1 truth
        wire in2 truth
        wire carry truth
        wire half truth
        wire sum truth
        wire c1 truth
        wire c2 truth
        wire out truth
        wire was truth shut
        part x1 xor in1 in2 half
        way x1 flip
        way x1 stuck 0
        part x2 xor half carry sum
        way x2 flip
        part a1 and in1 in2 c1
        way a1 stuck 1
        part a2 and carry half c2
        part o1 or c1 c2 out
        way o1 pass 1
        part h1 hold out was 0
    """

    def test_a_full_adder_at_fault(self):
        work = read_work(self.WORK)
        inputs = [[1, 0, 1]]
        played = play_work(work, inputs, {"x1": ("flip", None)})
        self.assertEqual(played, [[1, 0, 1, 0, 1, 0, 0, 0, 0]])
        deeds = "turns 1\nput in1 0 1\nput in2 0 0\nput carry 0 1\nput sum 0 1\nput out 0 0"
        told = asked(self, answer, self.WORK, deeds)
        self.assertEqual(told[1], [["x1", "x2"], ["x1", "a2", "o1"]])
        self.assertEqual(told[2], [["x1"], ["x2", "a2"], ["x2", "o1"]])
        self.assertEqual(write_answer(told), "\n".join([
            "read in1 0 1", "read in2 0 0", "read carry 0 1", "read sum 0 1", "read out 0 0", "clash x1 x2", "clash x1 a2 o1",
            "blame x1", "fit 0", "fit 1", "blame x2 a2", "blame x2 o1", "fit 0 0", "sure", "cleared a1 h1",
            "next half 0 2",
        ]))

    def test_asking_again_tells_the_same(self):
        deeds = "turns 2\nput in1 0 1\nput in2 0 0\nput sum 1 1\nput out 0 1\nput out 1 0"
        first = answer(self.WORK, deeds)
        kept = copy.deepcopy(first)
        for again in range(3):
            self.assertEqual(answer(self.WORK, deeds), kept)
        self.assertEqual(first, kept)

    def test_the_same_whatever_seed_python_mixes_texts_with(self):
        program = ("from faultwhy.answering import answer, write_answer\nfrom tests.test_interface import Whole\n"
                   "print(write_answer(answer(Whole.WORK, 'turns 1\\nput in1 0 1\\nput in2 0 0\\nput carry 0 1\\nput out 0 0')))\n"
                   "from faultwhy.reckoning import reckon\nfrom faultwhy.works import read_work\n"
                   "print(reckon(read_work(Whole.WORK), 2, [('in1', 0, 1), ('in2', 0, 0)], {'x1': None, 'a1': None}))")
        told = {
            subprocess.run([sys.executable, "-B", "-c", program], cwd=ROOT, env={"PYTHONHASHSEED": seed}, text=True,
                           capture_output=True, check=True).stdout
            for seed in ("0", "1", "2")
        }
        self.assertEqual(len(told), 1)


if __name__ == "__main__":
    unittest.main()
