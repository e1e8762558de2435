"""What the code of a program is made by: its routines with their things, and its signatures."""

from begunended.kindforms import layout_text, result_layout, signature_key


MANY_CELLS = {"array": True, "record": True, "string": True, "file": True, "text": True}


class RoutineCode:
    """The code of a routine that is being made.

    Rows are tuples of an order and what stands behind it; labels are numbered as they come up, and
    anew, by their rows, at the end. Numbers are those of the things that tellings and withs have; named
    are the tellings among these. Far_labels are those to which rows far of other routines lead, label_rows,
    at the end, the numbers of the rows of all labels.
    """

    def __init__(self, telling):
        self.telling = telling
        self.depth = telling.inner.depth
        self.numbers = {}
        self.named = []
        self.takes = []
        self.names = []
        self.rows = []
        self.many_labels = 0
        self.placed = {}
        self.far_labels = {}
        self.label_rows = {}
        self.is_wide = False

    def proc_name(self):
        return "p" + str(self.telling.number)

    def add_thing(self, telling, param, words):
        """Gives the next number to a thing."""
        self.numbers[telling] = len(self.takes) + len(self.names)
        self.named.append(telling)
        words.append(param)

    def hidden(self, param):
        """The number of a new hidden thing."""
        self.names.append(param)
        return len(self.takes) + len(self.names) - 1

    def new_label(self):
        self.many_labels += 1
        return self.many_labels - 1

    def label_of(self, placed):
        """The label of the statement that a label of the text is placed at."""
        if placed not in self.placed:
            self.placed[placed] = self.new_label()
        return self.placed[placed]


class Plan:
    """The routines of a program, and the names of its signatures by their keys.

    What comes of their code is found once, when it is first asked for, None ahead of that: measure, the plain
    unit, the rows that an edit compares, the procs that a run does.
    """

    def __init__(self, program):
        self.facts = program.facts
        self.measure = None
        self.unit = None
        self.compared_rows = None
        self.run_parts = None
        self.signatures = {}
        self.headings = []
        for telling in self.facts.handed:
            key = signature_key(telling)
            if key not in self.signatures:
                self.signatures[key] = "g" + str(len(self.headings))
                self.headings.append(telling)
        self.codes = {}
        for telling in self.facts.routines:
            self.codes[telling] = self.things_of(telling)

    def signature(self, telling):
        """The name of the signature of a routine that is handed."""
        return self.signatures[signature_key(telling)]

    def param(self, telling):
        """How a parameter is told in takes."""
        if telling.calling is not None:
            return "@" + self.signature(telling)
        return ("&" if telling.mode == "var" else "") + layout_text(telling.kind)

    def params(self, telling):
        return [self.param(parameter) for parameter in telling.parameters]

    def things_of(self, routine):
        """The code of a routine, with all its things but the hidden ones."""
        code = RoutineCode(routine)
        for telling in routine.parameters:
            code.add_thing(telling, self.param(telling), code.takes)
        if routine.calling == "function":
            code.add_thing(routine, result_layout(routine), code.names)
        is_program = routine.outside is None
        if is_program:
            for telling in self.facts.head_files:
                code.add_thing(telling, layout_text(telling.kind), code.names)
        for telling in self.facts.tellings:
            if telling.word == "variable" and telling.region == routine.inner and telling not in code.numbers:
                code.add_thing(telling, layout_text(telling.kind), code.names)
        return code


def plan_of(program):
    """The plan of a program, perhaps without the code of its routines."""
    return Plan(program) if program.plan is None else program.plan


def is_one_cell(kind):
    """Whether a value of this kind lies in one cell."""
    return kind.form not in MANY_CELLS
