"""Rule L23 of the language: what a loop or comprehension walks is not changed in it, under no name that it goes by."""

import ast
import textwrap
import unittest

from test_language import called, nodes

CHANGING = ["append", "clear", "extend", "insert", "pop", "remove", "reverse", "setdefault", "sort", "update", "add",
            "discard"]
# These walk what they are given, list(..) and sorted(..) walk a copy of it.
SEEN_THROUGH = ["enumerate", "zip", "reversed", "items", "keys", "values"]
COMPREHENSIONS = (ast.ListComp, ast.SetComp, ast.DictComp, ast.GeneratorExp)


def things(node):
    """The names and fields by which an expression may hand on a list that stands elsewhere, too."""
    if isinstance(node, ast.Name):
        return {node.id}
    if isinstance(node, ast.Attribute):
        return {"." + node.attr}
    if isinstance(node, (ast.Subscript, ast.Starred)):
        return things(node.value)
    if isinstance(node, ast.IfExp):
        return things(node.body) | things(node.orelse)
    if isinstance(node, ast.BoolOp):
        return set().union(*map(things, node.values))
    if isinstance(node, ast.NamedExpr):
        return things(node.target) | things(node.value)
    if called(node) in SEEN_THROUGH:
        return set().union(*map(things, [*node.args, getattr(node.func, "value", None)]))
    return set()


def same_things(function):
    """The pairs of names and fields that an assignment of the function may give one list."""
    for node in ast.walk(function):
        if isinstance(node, (ast.Assign, ast.NamedExpr)):
            for target in getattr(node, "targets", None) or [node.target]:
                both = isinstance(target, ast.Tuple) and isinstance(node.value, ast.Tuple)
                for one, other in zip(target.elts, node.value.elts) if both else [(target, node.value)]:
                    yield from ((first, second) for first in things(one) for second in things(other))


def with_other_names(names, pairs):
    """The names, and all that go by one another's names with them."""
    found = set(names)
    more = True
    while more:
        more = {name for pair in pairs if found & set(pair) for name in pair} - found
        found |= more
    return found


def changed_in(rows):
    """The nodes below the rows that change something, each one with the names of what it changes."""
    for row in rows:
        for node in ast.walk(row):
            if isinstance(node, ast.Call) and isinstance(node.func, ast.Attribute) and node.func.attr in CHANGING:
                yield node, things(node.func.value)
            elif called(node).startswith("heap"):
                yield node, things(node.args[0])
            elif isinstance(node, ast.Subscript) and not isinstance(node.ctx, ast.Load):
                yield node, things(node.value)
            elif isinstance(node, ast.AugAssign):
                yield node, things(node.target)


def walks_in(function):
    """What the loops and comprehensions of a function walk, each one with the rows that run meanwhile."""
    for node in ast.walk(function):
        if isinstance(node, ast.For):
            yield node.iter, node.body
        elif isinstance(node, COMPREHENSIONS):
            yield from ((part.iter, [node]) for part in node.generators)


def changed_walks(function):
    """The lines of a function in which something is changed that a loop around it walks."""
    pairs = list(same_things(function))
    return sorted({node.lineno for walked, rows in walks_in(function) for node, names in changed_in(rows)
                   if with_other_names(things(walked), pairs) & names})


def lines_of(text):
    return changed_walks(ast.parse(textwrap.dedent(text)))


class Loops(unittest.TestCase):
    def test_no_loop_of_the_package_changes_what_it_walks(self):
        for name, node in nodes(ast.FunctionDef):
            self.assertEqual(changed_walks(node), [], f"{name}: {node.name}")


class Sees(unittest.TestCase):
    """The test above sees each of the forms that the rule names."""

    def test_lists_that_go_by_one_anothers_names(self):
        text = """
            def longest(paths):
                while paths:
                    longer = []
                    for path in {walked}:
                        longer.append(path)
                    paths = {kept}
            """
        self.assertEqual(lines_of(text.format(walked="paths", kept="longer")), [6])
        self.assertEqual(lines_of(text.format(walked="list(paths)", kept="longer")), [])
        self.assertEqual(lines_of(text.format(walked="paths", kept="list(longer)")), [])
        self.assertEqual(lines_of(text.format(walked="enumerate(paths)", kept="longer if paths else []")), [6])

    def test_names_fields_items_and_choices(self):
        for walked in ("xs", "box.rows", "rows[k]", "xs if k else ys", "xs or ys", "zip(ys, xs)", "xs.items()"):
            name = {"box.rows": "box.rows", "rows[k]": "rows[k]"}.get(walked, "xs")
            for change in (f"{name}.append(k)", f"{name}[k] = 1", f"del {name}[k]", f"{name} += [k]",
                           f"heappush({name}, k)"):
                with self.subTest(walked=walked, change=change):
                    self.assertEqual(lines_of(f"for y in {walked}:\n    {change}"), [2])
                    self.assertEqual(lines_of(f"for y in list({walked}):\n    {change}"), [])
                    self.assertEqual(lines_of(f"for y in other:\n    {change}"), [])

    def test_comprehensions(self):
        self.assertEqual(lines_of("[xs.pop() for x in xs]"), [1])
        self.assertEqual(lines_of("[xs.pop() for x in ys for y in xs if y]"), [1])
        self.assertEqual(lines_of("[xs.pop() for x in list(xs)]"), [])


if __name__ == "__main__":
    unittest.main()
