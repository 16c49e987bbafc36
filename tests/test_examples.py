"""The examples of DOC.md, as they stand there."""

import ast
import unittest

from turnlots import errors

STAGE_1 = '''
>>> from turnlots.families import Family
>>> from turnlots.breaks import find_break
>>> find_break(Family.of(3, (), (0, 1, 2)))
((), (0, 1, 2), 0)

>>> from turnlots.families import Family
>>> from turnlots.gates import gate, steps_toward
>>> D = Family(3, [(), [1, 0], (0, 2), (1, 2)])
>>> [gate(D, (0, 1, 2), ()), list(steps_toward(D, (), (2, 1, 0)))]
[(0, 1), [(), (0, 1)]]

>>> from turnlots.texts import family_from
>>> family_from("3: 0,1 1,,2")
raises BadText(9)

>>> from turnlots.lots import all_lots
>>> [all_lots(2), all_lots(0)]
[[(), (0,), (0, 1), (1,)], [()]]
'''

STAGE_2 = '''
>>> from turnlots.families import Family
>>> from turnlots.bases import At, same_at
>>> D = Family.of(3, (), (0, 1), (0, 2), (1, 2))
>>> at = At(D, [2, 1, 0])
>>> [at.bases(), at.circuits(), at.alike(), same_at(D, at.lot, 2)]
[[(0,), (1,), (2,)], [(0, 1), (0, 2), (1, 2)], ((0, 1, 2),), 'down']

>>> from turnlots.labels import family_of_labels
>>> family_of_labels(1, [[()], [(0,)]]).lots
((),)

>>> from turnlots.labels import family_of_labels
>>> family_of_labels(1, [[(0,)], [(0,)]])
raises BadEdge((), 0)
'''

STAGE_3 = '''
>>> from turnlots.families import Family
>>> from turnlots.rules import depth_table
>>> depth_table(Family.of(2, (), (0, 1)))
(0, 1, 0, 1)

>>> from turnlots.families import Family
>>> from turnlots.rules import broken_rule, depth_table
>>> broken_rule(3, depth_table(Family.of(3, (), (0, 1, 2))))
(3, (0,), (1, 2))

>>> from turnlots.families import Family
>>> from turnlots.met import Pair, met, met_lots, reach
>>> family = Family.of(3, (0,), (1, 2))
>>> pair = Pair((1, 0), (2,))
>>> [met(family, pair), reach(family, pair), met_lots(family, pair), (0, 1) in pair]
[2, 1, [(0,)], True]

>>> from turnlots.families import Family
>>> from turnlots.kept import least_refused
>>> first, second = least_refused(Family.of(2, (0,), (1,)))
>>> [first.wanted, first.unwanted, second.wanted, second.unwanted]
[(), (0, 1), (0, 1), ()]
'''

STAGE_4 = '''
>>> from turnlots.families import Family
>>> from turnlots.small import forget, in_of, out_of
>>> family = Family.of(3, (0,), (1, 2), (0, 1, 2))
>>> [out_of(family, 1).lots, in_of(family, 1).lots, forget(family, 1).lots]
[((0,),), ((0, 1), (1,)), ((0,), (0, 1), (1,))]
'''


def run_example(lines):
    """What the last line of an example gives: the text of its value, or of its error."""
    names = {}
    *before, last = [line.removeprefix(">>> ") for line in lines]
    for line in before:
        exec(line, names)
    try:
        return repr(eval(last, names))
    except errors.LotsError as error:
        values = ", ".join(repr(value) for value in vars(error).values())
        return f"raises {type(error).__name__}({values})"


class ExamplesTest(unittest.TestCase):
    def check_examples(self, text):
        for example in text.strip().split("\n\n"):
            *lines, expected = example.split("\n")
            if not expected.startswith("raises"):
                expected = repr(ast.literal_eval(expected))
            self.assertEqual(run_example(lines), expected, example)

    def test_stage_1(self):
        self.check_examples(STAGE_1)

    def test_stage_2(self):
        self.check_examples(STAGE_2)

    def test_stage_3(self):
        self.check_examples(STAGE_3)

    def test_stage_4(self):
        self.check_examples(STAGE_4)
