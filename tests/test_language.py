"""The rules of the language that can be seen in the package's files; the rule's number is told with each finding."""

import ast
import builtins
import keyword
import pathlib
import re
import unittest

PACKAGE = pathlib.Path(__file__).resolve().parent.parent / "buildlogs"

OWN_NAMES = set(
    "len range enumerate zip min max sum abs sorted reversed int str bool list tuple dict set frozenset isinstance "
    "ord repr any all divmod Exception ValueError TypeError KeyError IndexError LookupError ZeroDivisionError "
    "ArithmeticError OverflowError RuntimeError NotImplementedError AttributeError StopIteration".split()
)
METHODS = set(
    "append clear copy count endswith extend find get index insert isalnum isalpha isdigit islower isspace isupper "
    "items join keys ljust lower lstrip partition pop remove replace reverse rfind rjust rpartition rsplit rstrip "
    "setdefault split splitlines startswith strip update upper values zfill bit_length".split()
)
SPECIAL_METHODS = {"__init__", "__eq__", "__repr__", "__str__", "__len__"}
NODES = (
    ast.Module, ast.FunctionDef, ast.ClassDef, ast.Return, ast.Assign, ast.AugAssign, ast.For, ast.While, ast.If,
    ast.Raise, ast.Try, ast.ExceptHandler, ast.ImportFrom, ast.alias, ast.Expr, ast.Pass, ast.Break, ast.Continue,
    ast.BoolOp, ast.BinOp, ast.UnaryOp, ast.Lambda, ast.IfExp, ast.Dict, ast.Set, ast.ListComp, ast.Compare, ast.Call,
    ast.JoinedStr, ast.FormattedValue, ast.Constant, ast.Attribute, ast.Subscript, ast.Name, ast.List, ast.Tuple,
    ast.Slice, ast.comprehension, ast.arguments, ast.arg, ast.keyword, ast.expr_context, ast.boolop, ast.operator,
    ast.unaryop, ast.cmpop,
)
BANNED_NAMES = set(
    "register mro elements open input version_info with_traceback add_note attrgetter breakpoint builtins compile "
    "copyright credits delattr dir eval exec exit gc getattr globals hasattr help id importlib license locals "
    "methodcaller os quit setattr super type vars sys __name__ chr print".split()
)
BANNED_WORDS = re.compile(
    r"\b(type|typing|typing_extensions|enum|Enum|IntEnum|StrEnum|Flag|IntFlag|Generic|Protocol|ABC|ABCMeta|namedtuple"
    r"|NamedTuple|TypedDict|TYPE_CHECKING|abstractmethod)\b|dataclass|overload|contextmanager"
)


def package_files():
    return sorted(path for path in PACKAGE.rglob("*") if path.is_file() and "__pycache__" not in path.parts)


def own_attributes(trees):
    """The values and methods that the package's classes have."""
    found = set()
    for tree in trees:
        for node in ast.walk(tree):
            if isinstance(node, ast.ClassDef):
                found.update(part.name for part in node.body if isinstance(part, ast.FunctionDef))
            if isinstance(node, ast.Attribute) and isinstance(node.ctx, ast.Store):
                found.add(node.attr)
    return found


def file_findings(path, text):
    if path.suffix != ".py" or not re.fullmatch(r"[a-z0-9_]+\.py", path.name):
        yield "L1 file name"
    name = path.stem
    if name in dir(builtins) or keyword.iskeyword(name) or re.fullmatch(r"test.*|site.*|conftest|usercustomize", name):
        yield "L14 file name"
    lines = text.split("\n")
    if len(lines) - 1 > 399:
        yield "L10 file length"
    for number, line in enumerate(lines, 1):
        if len(line) > 120:
            yield f"L10 line {number}"
        if not all(" " <= sign <= "~" for sign in line):
            yield f"L14 sign in line {number}"
        if BANNED_WORDS.search(line):
            yield f"L17 word in line {number}"


def name_findings(tree):
    bound = {}
    for node in ast.walk(tree):
        names = []
        if isinstance(node, (ast.FunctionDef, ast.ClassDef)):
            names = [node.name]
        elif isinstance(node, ast.arg):
            names = [node.arg]
        elif isinstance(node, ast.Name):
            names = [node.id]
        elif isinstance(node, ast.Attribute):
            names = [node.attr]
        for name in names:
            if name.startswith("_") and name not in SPECIAL_METHODS:
                yield f"L12 {name} in line {node.lineno}"
            if name in BANNED_NAMES:
                yield f"L17 {name} in line {node.lineno}"
        if isinstance(node, ast.Name) and isinstance(node.ctx, ast.Load):
            if node.id in dir(builtins) and node.id not in OWN_NAMES:
                yield f"L8 {node.id} in line {node.lineno}"
        elif isinstance(node, (ast.Name, ast.arg)):
            name = node.id if isinstance(node, ast.Name) else node.arg
            if name in dir(builtins):
                yield f"L15 {name} in line {node.lineno}"
            bound[name] = node.lineno
    tops = [part.name for part in tree.body if isinstance(part, (ast.FunctionDef, ast.ClassDef))]
    tops += [alias.asname or alias.name for part in tree.body if isinstance(part, ast.ImportFrom)
             for alias in part.names]
    for name in tops:
        if name in bound or tops.count(name) > 1:
            yield f"L15 {name} is bound again"


def node_findings(tree, attributes):
    for node in ast.walk(tree):
        line = getattr(node, "lineno", 0)
        if not isinstance(node, NODES):
            yield f"L6 {type(node).__name__} in line {line}"
        if isinstance(node, ast.FunctionDef):
            if node.end_lineno - node.lineno + 1 > 40:
                yield f"L10 {node.name}"
            rest = node.args
            if node.decorator_list or rest.vararg or rest.kwarg or rest.kwonlyargs or rest.posonlyargs:
                yield f"L4 {node.name}"
        if isinstance(node, ast.Expr) and not isinstance(node.value, ast.Call) and node is not tree.body[0]:
            yield f"L6 a value by itself in line {line}"
        if isinstance(node, (ast.For, ast.While)) and node.orelse or isinstance(node, ast.Try) and node.finalbody:
            yield f"L6 line {line}"
        if isinstance(node, ast.Assign) and (len(node.targets) > 1 or isinstance(node.targets[0], ast.Tuple)):
            yield f"L6 targets in line {line}"
        if isinstance(node, (ast.Div, ast.MatMult)) or isinstance(node, ast.ListComp) and len(node.generators) > 1:
            yield f"L7 line {line}"
        if isinstance(node, ast.FormattedValue) and not isinstance(node.value, ast.Name):
            yield f"L7 f-string in line {line}"
        if isinstance(node, ast.Constant) and not isinstance(node.value, (int, str, type(None))):
            yield f"L7 value in line {line}"
        if isinstance(node, ast.Constant) and isinstance(node.value, str) and "%" in node.value:
            yield f"L27 line {line}"
        if isinstance(node, ast.Attribute) and node.attr not in METHODS | attributes:
            yield f"L25 {node.attr} in line {line}"
        if isinstance(node, ast.Compare) and any(isinstance(sign, (ast.Is, ast.IsNot)) for sign in node.ops):
            if not all(isinstance(side, ast.Constant) for side in node.comparators):
                yield f"L20 line {line}"


def top_findings(tree):
    for part in tree.body:
        if isinstance(part, ast.ImportFrom):
            if part.level or part.module == "buildlogs" or not part.module.startswith("buildlogs."):
                yield f"L16 line {part.lineno}"
        elif isinstance(part, ast.Assign):
            for node in ast.walk(part.value):
                plain = (ast.Constant, ast.List, ast.Tuple, ast.Dict, ast.UnaryOp, ast.USub, ast.expr_context)
                if not isinstance(node, plain):
                    yield f"L3 line {part.lineno}"
                if isinstance(node, (ast.List, ast.Dict)) and node is not part.value:
                    yield f"L15 line {part.lineno}"
        elif not isinstance(part, (ast.FunctionDef, ast.ClassDef)):
            if not (isinstance(part, ast.Expr) and isinstance(part.value, ast.Constant)):
                yield f"L3 line {part.lineno}"


class Language(unittest.TestCase):
    def test_the_package_keeps_to_the_rules(self):
        paths = package_files()
        self.assertIn(PACKAGE / "__init__.py", paths)
        texts = [path.read_text(encoding="utf-8") for path in paths]
        trees = [ast.parse(text) for text in texts]
        attributes = own_attributes(trees)
        findings = []
        for path, text, tree in zip(paths, texts, trees):
            for found in (
                list(file_findings(path, text)) + list(name_findings(tree)) + list(node_findings(tree, attributes))
                + list(top_findings(tree))
            ):
                findings.append(f"{path.name}: {found}")
        self.assertEqual(findings, [])

    def test_no_two_files_draw_from_one_another(self):
        draws = {}
        for path in package_files():
            tree = ast.parse(path.read_text(encoding="utf-8"))
            draws["buildlogs." + path.stem] = [part.module for part in tree.body if isinstance(part, ast.ImportFrom)]
        while draws:
            free = [name for name in draws if not any(other in draws for other in draws[name])]
            self.assertTrue(free, f"L16: a ring among {sorted(draws)}")
            for name in free:
                draws.pop(name)


if __name__ == "__main__":
    unittest.main()
