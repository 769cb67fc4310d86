"""The examples of the document, word by word."""

import unittest

from lastingshares import errors

EXAMPLES = [
    """
>>> from lastingshares.tables import Table
>>> table = Table([[0, 2, 0], [1, 0, 0], [0, 5, 0]])
>>> [list(~table), (table * 3).rows, len(table + ~table), (1, 2) in table]
[[(0, 1), (1, 0), (1, 2)], ((0, 6, 0), (3, 0, 0), (0, 15, 0)), 4, False]
""",
    """
>>> from lastingshares.chains import Chain
>>> Chain([[0, 2, 0], [1, 0, 0], [0, 5, 0]])
raises NotJoined((0, 1))
""",
    """
>>> from lastingshares.chains import Chain
>>> from lastingshares.shapes import only_tree, ungated
>>> from lastingshares.walks import gates, walks
>>> chain = Chain([[0, 2, 0], [1, 0, 3], [4, 0, 0]])
>>> (gates(chain, 2, 1), walks(chain, 1, 0), only_tree(chain, 1), ungated(chain, 0))
((2, 0, 1), [(1, 0), (1, 2, 0)], (1, 1, 0), (1, 2))
""",
]


def outcome(lines):
    """The text that the session shows for its last line."""
    names = {}
    for line in lines[:-1]:
        exec(line, names)
    try:
        return repr(eval(lines[-1], names))
    except errors.ChainError as error:
        values = ", ".join(repr(value) for value in vars(error).values())
        return f"raises {type(error).__name__}({values})"


class Examples(unittest.TestCase):
    def test_each_example(self):
        for example in EXAMPLES:
            lines = example.strip().split("\n")
            with self.subTest(lines[-2]):
                self.assertEqual(outcome([line.removeprefix(">>> ") for line in lines[:-1]]), lines[-1])


if __name__ == "__main__":
    unittest.main()
