"""What can be seen of the rules that the package's own files keep to."""

import ast
import builtins
import pathlib
import re
import unittest

FOLDER = pathlib.Path(__file__).resolve().parent.parent / "ridespark"
FILES = sorted(FOLDER.glob("*.py"))

STATEMENTS = (ast.FunctionDef, ast.ClassDef, ast.ImportFrom, ast.Assign, ast.AugAssign, ast.If, ast.While, ast.For,
              ast.Return, ast.Break, ast.Continue, ast.Pass, ast.Raise, ast.Expr)
EXPRESSIONS = (ast.BoolOp, ast.BinOp, ast.UnaryOp, ast.Lambda, ast.IfExp, ast.Dict, ast.List, ast.Tuple, ast.ListComp,
               ast.Compare, ast.Call, ast.Constant, ast.JoinedStr, ast.FormattedValue, ast.Attribute, ast.Subscript,
               ast.Slice, ast.Name)
OWN_NAMES = ("len range enumerate zip min max sum abs sorted reversed int str bool list tuple dict set isinstance ord "
             "repr any all divmod Exception ValueError KeyError IndexError").split()
METHODS = ("append clear copy count endswith extend find get index insert isalnum isalpha isdigit islower isspace "
           "isupper items join keys lower lstrip partition pop remove replace reverse rfind rpartition rsplit rstrip "
           "setdefault split splitlines startswith strip update upper values zfill bit_length").split()
WORDS = re.compile(r"\b(type|typing|typing_extensions|enum|Enum|IntEnum|StrEnum|Flag|IntFlag|Generic|Protocol|ABC|ABCMeta"
                   r"|namedtuple|NamedTuple|TypedDict|TYPE_CHECKING|abstractmethod)\b|dataclass|overload|contextmanager")
UNUSED = "open input register elements version_info id exit quit eval exec compile vars dir sys os super".split()


class LanguageTest(unittest.TestCase):
    def nodes(self):
        for path in FILES:
            for node in ast.walk(ast.parse(path.read_text())):
                yield f"{path.name}:{getattr(node, 'lineno', 0)}", node

    def test_files(self):
        inside = [path for path in FOLDER.iterdir() if path.name != "__pycache__"]
        self.assertEqual(sorted(inside), FILES)
        self.assertIn("__init__.py", [path.name for path in FILES])

    def test_sizes_and_signs(self):
        for path in FILES:
            text = path.read_text()
            self.assertLessEqual(len(text.splitlines()), 400, path)
            self.assertLessEqual(max(map(len, text.splitlines())), 120, path)
            self.assertTrue(all(sign == "\n" or " " <= sign <= "~" for sign in text), path)
            self.assertIsNone(WORDS.search(text), path)

    def test_forms(self):
        for where, node in self.nodes():
            if isinstance(node, ast.stmt):
                self.assertIsInstance(node, STATEMENTS, where)
            if isinstance(node, ast.expr):
                self.assertIsInstance(node, EXPRESSIONS, where)
            if isinstance(node, (ast.For, ast.While)):
                self.assertEqual(node.orelse, [], where)
            if isinstance(node, ast.Assign):
                self.assertEqual(len(node.targets), 1, where)
                self.assertNotIsInstance(node.targets[0], ast.Tuple, where)
            if isinstance(node, ast.ListComp):
                self.assertEqual(len(node.generators), 1, where)
                self.assertLessEqual(len(node.generators[0].ifs), 1, where)
            if isinstance(node, ast.BinOp):
                self.assertNotIsInstance(node.op, (ast.Div, ast.Pow, ast.MatMult), where)
            if isinstance(node, ast.FunctionDef):
                self.assertLessEqual(node.end_lineno - node.lineno + 1, 40, where)
                self.assertEqual(node.decorator_list, [], where)

    def test_imports(self):
        drawn = {}
        for path in FILES:
            for node in ast.walk(ast.parse(path.read_text())):
                if isinstance(node, ast.ImportFrom):
                    self.assertEqual((node.level, node.module.partition(".")[0]), (0, "ridespark"), path)
                    self.assertNotIn("*", [name.name for name in node.names], path)
                    drawn.setdefault(path.stem, set()).add(node.module.rpartition(".")[2])
        left = {path.stem for path in FILES}
        while left:
            free = {name for name in left if not drawn.get(name, set()) & left}
            self.assertTrue(free, f"these draw from one another: {sorted(left)}")
            left -= free

    def is_plain(self, node, functions):
        if isinstance(node, ast.UnaryOp):
            return isinstance(node.op, ast.USub) and isinstance(node.operand, ast.Constant)
        if isinstance(node, (ast.Tuple, ast.List)):
            return all(self.is_plain(part, functions) for part in node.elts)
        if isinstance(node, ast.Dict):
            return all(self.is_plain(part, functions) for part in node.keys + node.values)
        return isinstance(node, ast.Constant) or isinstance(node, ast.Name) and node.id in functions

    def test_tops(self):
        for path in FILES:
            bound = []
            functions = []
            for node in ast.parse(path.read_text()).body:
                where = f"{path.name}:{node.lineno}"
                if isinstance(node, ast.Assign):
                    self.assertTrue(self.is_plain(node.value, functions), where)
                    bound.append(node.targets[0].id)
                elif isinstance(node, ast.ImportFrom):
                    bound += [name.name for name in node.names]
                elif isinstance(node, (ast.FunctionDef, ast.ClassDef)):
                    bound.append(node.name)
                    functions += [node.name] if isinstance(node, ast.FunctionDef) else []
                else:
                    self.assertIsInstance(node.value, ast.Constant, where)
            self.assertEqual(len(bound), len(set(bound)), path)

    def test_what_a_file_binds_is_not_hidden(self):
        for path in FILES:
            tree = ast.parse(path.read_text())
            bound = {name.name for node in tree.body if isinstance(node, ast.ImportFrom) for name in node.names}
            bound |= {node.name for node in tree.body if isinstance(node, (ast.ClassDef, ast.FunctionDef))}
            for node in ast.walk(tree):
                if isinstance(node, ast.arg):
                    self.assertNotIn(node.arg, bound, f"{path.name}:{node.lineno}")
                if isinstance(node, ast.Name) and isinstance(node.ctx, ast.Store):
                    self.assertNotIn(node.id, bound, f"{path.name}:{node.lineno}")

    def test_imports_are_used_and_from_where_they_are_defined(self):
        defined = {}
        for path in FILES:
            for node in ast.parse(path.read_text()).body:
                names = [node.targets[0].id] if isinstance(node, ast.Assign) else []
                names += [node.name] if isinstance(node, (ast.ClassDef, ast.FunctionDef)) else []
                for name in names:
                    defined[path.stem, name] = True
        for path in FILES:
            tree = ast.parse(path.read_text())
            used = {node.id for node in ast.walk(tree) if isinstance(node, ast.Name)}
            for node in tree.body:
                for name in node.names if isinstance(node, ast.ImportFrom) else []:
                    self.assertIn((node.module.rpartition(".")[2], name.name), defined, path)
                    self.assertIn(name.name, used, path)

    def test_names(self):
        for where, node in self.nodes():
            if isinstance(node, ast.Name) and hasattr(builtins, node.id):
                self.assertIn(node.id, OWN_NAMES, where)
                self.assertIsInstance(node.ctx, ast.Load, where)
            names = [node.id] if isinstance(node, ast.Name) else [node.arg] if isinstance(node, ast.arg) else []
            names += [node.name] if isinstance(node, (ast.FunctionDef, ast.ClassDef)) else []
            names += [node.attr] if isinstance(node, ast.Attribute) else []
            for name in names:
                self.assertNotIn(name, UNUSED, where)
                self.assertTrue(name == "__init__" or not name.startswith("_"), where)
            if isinstance(node, (ast.arg, ast.FunctionDef, ast.ClassDef)) and names[0] != "__init__":
                self.assertFalse(hasattr(builtins, names[0]), where)
            if isinstance(node, ast.Call) and isinstance(node.func, ast.Attribute):
                self.assertIn(node.func.attr, METHODS, where)


if __name__ == "__main__":
    unittest.main()
