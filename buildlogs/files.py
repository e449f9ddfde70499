"""The files of a log: which are sources, which record makes one, and on what one rests."""


# The first record that has it will do: in a sound log a file has one number.
def find_file(records, name):
    for record in records:
        for file in record.inputs + record.outputs:
            if file.name == name:
                return file
    return None


# None for a source. In a sound log there is one maker at most.
def find_maker(records, name):
    for record in records:
        if any([file.name == name for file in record.outputs]):
            return record
    return None


def sources_among(records, names):
    return [name for name in names if find_maker(records, name) is None]


def count_sources(records):
    names = {}
    for record in records:
        for file in record.inputs:
            names[file.name] = True
    return len(sources_among(records, names))


# A loop, and each file once: files may be reached in very many ways.
def sources_below(records, name):
    reached = {}
    waiting = [name]
    while len(waiting) > 0:
        maker = find_maker(records, waiting.pop())
        if maker is not None:
            for file in maker.inputs:
                if file.name not in reached:
                    reached[file.name] = True
                    waiting.append(file.name)
    return sorted(sources_among(records, reached))
