"""The plain text of a log."""

from buildlogs.texts import codes


def word_row(label, word):
    return codes(f"  {label} ") + word + codes(";\n")


def file_row(label, file):
    number = file.number
    return codes(f"  {label} ") + file.name + codes(f" {number};\n")


def record_rows(record):
    way = record.way
    status = record.status
    rows = [codes(f"{way} ") + record.name + codes(" {\n"), word_row("tool", record.tool)]
    for argument in record.arguments:
        rows.append(word_row("arg", argument))
    for file in record.inputs:
        rows.append(file_row("in", file))
    for file in record.outputs:
        rows.append(file_row("out", file))
    rows.append(codes(f"  exit {status};\n"))
    rows.append(codes("}\n"))
    return rows


def plain_text(log):
    text = []
    for record in log.records:
        for row in record_rows(record):
            text.extend(row)
    total = log.total
    text.extend(codes(f"end {total};\n"))
    return text
