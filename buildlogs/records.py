"""What a log holds."""


# A file as a record tells it: its name and the number that stands for its bytes.
class File:
    def __init__(self, name, number):
        self.name = name
        self.number = number


# What a record tells of an action; way is "run" or "kept".
class Record:
    def __init__(self, way, name):
        self.way = way
        self.name = name
        self.tool = ()
        self.arguments = []
        self.inputs = []
        self.outputs = []
        self.status = 0


# The records in their order, and the number behind end, which need not be how many they are.
class Log:
    def __init__(self, records, total):
        self.records = records
        self.total = total


# None if there is none. In a sound log a name is that of one record at most.
def find_record(records, name):
    for record in records:
        if record.name == name:
            return record
    return None
