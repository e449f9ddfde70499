"""Promises 8 to 14 against a second, plainer reading of the document, over very many small logs."""

import random
import unittest

from tests.support import (
    ABSENT, ALIKE, ask, drop, fault, first, in_order, lines, plain, raw, read, roots, steady, unlike, why,
)

WORDS = ["", "only first", "only second", "defined", "input", "output", "exit"]
NAMES = ["a", "b", "c", "d", "e", "f"]


def build(source):
    """A sound log: a list of (name, tool, arguments, inputs, outputs, exit), and the numbers of its files."""
    numbers = {}
    records = []
    for name in source.sample(NAMES, source.randint(0, len(NAMES))):
        old = [file for file in numbers if source.random() < 0.5][:3]
        inputs = old + [file for file in ("s", "t") if file not in old and source.random() < 0.3]
        source.shuffle(inputs)
        outputs = [file for file in (name + "1", name + "2") if source.random() < 0.7]
        for file in inputs + outputs:
            numbers.setdefault(file, source.randint(1, 3))
        arguments = ["x"] if source.random() < 0.1 else []
        records.append((name, "t", arguments, inputs, outputs, int(source.random() < 0.1)))
    return records, numbers


def changed(source, records, numbers):
    """A log much like this one: some numbers, exits, definitions and records are others."""
    others = {file: source.choice([number] * 3 + [number + 3]) for file, number in numbers.items()}
    kept = []
    for name, tool, arguments, inputs, outputs, status in records:
        chance = source.random()
        if chance < 0.1:
            continue
        if chance < 0.2:
            tool = "u"
        elif chance < 0.3:
            status = 1 - status
        elif chance < 0.4:
            outputs = outputs[:1]
        kept.append((name, tool, arguments, inputs, outputs, status))
    if source.random() < 0.3:
        kept.insert(source.randint(0, len(kept)), ("g", "t", [], [], ["g1"], 0))
        others["g1"] = 1
    return kept, others


def row(record, numbers):
    name, tool, arguments, inputs, outputs, status = record
    parts = [f"run {name} {{\n  tool {tool};\n"]
    parts += [f"  arg {argument};\n" for argument in arguments]
    parts += [f"  in {file} {numbers[file]};\n" for file in inputs]
    parts += [f"  out {file} {numbers[file]};\n" for file in outputs]
    return "".join(parts) + f"  exit {status};\n}}\n"


def written(records, numbers):
    return "".join(row(record, numbers) for record in records) + f"end {len(records)};\n"


def way(name, one, other):
    mine = {record[0]: record for record in one[0]}.get(name)
    theirs = {record[0]: record for record in other[0]}.get(name)
    if theirs is None:
        return 1
    if mine is None:
        return 2
    if mine[1:5] != theirs[1:5]:
        return 3
    if any(one[1][file] != other[1][file] for file in mine[3]):
        return 4
    if mine[5] != theirs[5]:
        return 6
    return 5 if any(one[1][file] != other[1][file] for file in mine[4]) else 0


class Reference:
    """What is to be answered of two logs."""

    def __init__(self, one, other):
        names = [record[0] for record in one[0]]
        self.names = names + [record[0] for record in other[0] if record[0] not in names]
        self.ways = {name: way(name, one, other) for name in self.names}
        self.unlike = [name for name in self.names if self.ways[name]]
        self.makers = {file: record[0] for record in one[0] for file in record[4]}
        self.inputs = {
            record[0]: [file for file in record[3] if file in other[1] and one[1][file] != other[1][file]]
            for record in one[0]
        }
        self.outputs = {
            record[0]: [file for file in record[4] if file in other[1] and one[1][file] != other[1][file]]
            for record in one[0]
        }

    def causes(self, name):
        """For each input with another number the unlike action that made it, or None."""
        makers = [self.makers.get(file) for file in self.inputs[name]]
        return [maker if maker in self.unlike else None for maker in makers]

    def told_unlike(self):
        return lines(*[f"{name}: {WORDS[self.ways[name]]}" for name in self.unlike])

    def told_first(self):
        if not self.unlike:
            return [0]
        name = self.unlike[0]
        files = {4: self.inputs, 5: self.outputs}.get(self.ways[name], {name: [""]})[name]
        return [self.ways[name], len(name)] + raw(name + files[0])

    def told_roots(self):
        return lines(*[name for name in self.unlike if self.ways[name] != 4 or None in self.causes(name)])

    def chain(self, name):
        causes = [cause for cause in self.causes(name) if cause] if self.ways[name] == 4 else []
        return [name] + (self.chain(causes[0]) if causes else [])

    def told_why(self, name):
        if name not in self.names:
            return ABSENT
        return lines(*self.chain(name)) if name in self.unlike else ALIKE

    def told_steady(self):
        return [int(not {5, 6} & set(self.ways.values()))]


def sorted_text(records, numbers):
    made = {file for record in records for file in record[4]}
    standing = []
    while len(standing) < len(records):
        there = {file for record in standing for file in record[4]}
        ready = [record for record in records if record not in standing and made & set(record[3]) <= there]
        standing.append(min(ready))
    return written(standing, numbers)


class AgainstTheReference(unittest.TestCase):
    def pairs(self):
        source = random.Random(1)
        for i in range(400):
            one = build(source)
            yield one, changed(source, *one) if i % 8 else build(source)

    def test_comparisons(self):
        seen = set()
        for one, other in self.pairs():
            reads = [read(2, written(*one)), read(1, written(*other))]
            reference = Reference(one, other)
            seen.update(reference.ways.values())
            names = NAMES + ["g", "h"]
            self.assertEqual(
                ask(*reads, fault(2), fault(1), unlike(2, 1), first(2, 1), roots(2, 1), steady(2, 1),
                    *[why(2, 1, name) for name in names])[2:],
                [[0], [0], reference.told_unlike(), reference.told_first(), reference.told_roots(),
                 reference.told_steady()] + [reference.told_why(name) for name in names],
                written(*one) + written(*other),
            )
        self.assertEqual(seen, set(range(7)))

    def test_sorted_and_drop(self):
        for (records, numbers), other in self.pairs():
            calls = [read(3, written(records, numbers)), in_order(3)]
            expected = [[len(records)], [0] + raw(sorted_text(records, numbers))]
            left = list(records)
            for name in NAMES[::-1]:
                kept = [record for record in left if record[0] != name]
                calls += [drop(3, name), fault(3), plain(3), in_order(3)]
                expected += [
                    [len(kept)] if len(kept) < len(left) else ABSENT, [0], [0] + raw(written(kept, numbers)),
                    [0] + raw(sorted_text(kept, numbers)),
                ]
                left = kept
            self.assertEqual(ask(*calls), expected, written(records, numbers))


if __name__ == "__main__":
    unittest.main()
