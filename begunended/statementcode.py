"""The code of statements and bodies."""

from begunended.callcode import CallCode
from begunended.cases import MOST_NUMBERS, case_way
from begunended.kindforms import layout_text
from begunended.plans import is_one_cell
from begunended.required import FILES

MOST_TAG_VALUES = 32


class StatementCode(CallCode):
    """The code of the statements of a routine.

    A row `step` is the row line with which a statement begins; behind its line stands the number of
    the statement's first token.
    """

    def line_of(self, token):
        return self.plan.facts.line_of(token)

    def body(self):
        """The rows of the routine's body."""
        parts = self.own.telling.block.parts
        begin, end = parts[-2].first, parts[-1].first
        self.emit("step", self.line_of(begin), begin)
        if self.own.telling.outside is None:
            for telling in self.plan.facts.head_files:
                if telling.name in FILES:
                    self.name_place(telling)
                    self.emit("reset" if telling.name == "input" else "rewrite")
        self.all_statements(parts[-3])
        self.emit("line", self.line_of(end))
        self.emit("leave")

    def all_statements(self, statements):
        for statement in statements.parts:
            self.statement(statement)

    def statement(self, node):
        """S of a statement."""
        if node.word == "label":
            self.emit("label", self.own.label_of(node.means))
            node = node.parts[1]
        self.emit("step", self.line_of(node.first), node.first)
        word = node.word
        if word == "put":
            self.put(node.parts[0], node.parts[1])
        elif word == "call":
            self.call_statement(node)
        elif word == "goto":
            self.goto(node.parts[0].means)
        elif word == "begin":
            self.all_statements(node.parts[0])
        elif word == "if":
            self.choose(node)
        elif word == "while":
            self.loop_while(node)
        elif word == "repeat":
            self.loop_repeat(node)
        elif word == "for":
            self.loop_for(node)
        elif word == "case":
            self.case(node)
        elif word == "with":
            self.open_with(node)

    def put(self, place, expression):
        """The rows of :=."""
        self.place(place, True)
        if place.spot is not None and place.spot.is_tag:
            self.put_tag(place, expression)
            return
        self.put_value(expression, place.kind)
        self.emit("store" if is_one_cell(place.kind) else "move")

    def put_tag(self, place, expression):
        """Puts a tag: the rows of its record's place are those of its own but for the last one."""
        tag = place.means if place.word == "name" else place.parts[1].means
        number = self.own.rows.pop()[1]
        self.emit("dup")
        self.emit("field", number)
        self.put_value(expression, place.kind)
        self.emit_all(("store", "dup"))
        self.emit("field", number)
        self.emit("load")
        self.as_number(place.kind)
        arms = tag.variant.arms
        pairs = sorted([(value, at) for at, arm in enumerate(arms) for value in arm.numbers])
        if len(pairs) > MOST_TAG_VALUES:
            self.mark_wide()
        self.emit("lives", len(arms), tuple(pairs))

    def mark_wide(self):
        """Keeps in mind that no proc can have this code."""
        own = self.own
        own.is_wide = True

    def goto(self, goto):
        routine = self.own.telling
        for _ in range(goto.out):
            routine = routine.outside
        code = self.plan.codes[routine]
        label = code.label_of(goto.label)
        if goto.out == 0:
            self.emit("jump", label)
        else:
            code.far_labels[label] = True
            self.emit("far", goto.out, label)

    def choose(self, node):
        """The rows of if."""
        condition, then, otherwise = node.parts
        other = self.own.new_label()
        self.emit_value(condition, None)
        self.emit("unless", other)
        self.statement(then)
        if otherwise is None:
            self.emit("label", other)
            return
        behind = self.own.new_label()
        self.emit("jump", behind)
        self.emit("label", other)
        self.statement(otherwise)
        self.emit("label", behind)

    def loop_while(self, node):
        again, behind = self.own.new_label(), self.own.new_label()
        self.emit("label", again)
        self.emit_value(node.parts[0], None)
        self.emit("unless", behind)
        self.statement(node.parts[1])
        self.emit("line", self.line_of(node.first))
        self.emit("jump", again)
        self.emit("label", behind)

    def loop_repeat(self, node):
        again = self.own.new_label()
        self.emit("label", again)
        self.all_statements(node.parts[0])
        self.emit("line", self.line_of(node.first))
        self.emit_value(node.parts[1], None)
        self.emit("unless", again)

    def loop_for(self, node):
        leaf, begin, way, end, done = node.parts
        telling = leaf.means
        now, last = self.own.hidden("n"), self.own.hidden("n")
        again, behind = self.own.new_label(), self.own.new_label()
        for hidden, expression in ((now, begin), (last, end)):
            self.own_place(hidden)
            self.emit_number(expression)
            self.emit("store")
        self.both_ends(now, last, "ge" if way.tree == "downto" else "le")
        self.emit("unless", behind)
        if telling.kind.form == "stretch":
            for hidden in (now, last):
                self.own_number(hidden)
                self.emit("look", telling.kind.low, telling.kind.high)
                self.emit("drop")
        self.emit("label", again)
        self.own_place(self.own.numbers[telling])
        self.own_number(now)
        self.from_number(telling.kind)
        self.emit("store")
        self.statement(done)
        self.emit("line", self.line_of(node.first))
        self.both_ends(now, last, "ne")
        self.emit("unless", behind)
        self.own_place(now)
        self.own_number(now)
        self.emit("num", 1)
        self.emit_all(("sub" if way.tree == "downto" else "add", "store"))
        self.emit("jump", again)
        self.emit("label", behind)
        self.own_place(self.own.numbers[telling])
        self.emit("unset")

    def own_number(self, number):
        """The number in an own hidden thing."""
        self.own_place(number)
        self.emit("load")

    def both_ends(self, now, last, order):
        """Compares the numbers in two own hidden things."""
        self.own_number(now)
        self.own_number(last)
        self.emit(order)

    def case(self, node):
        expression, choices = node.parts
        self.emit_number(expression)
        labels = {}
        starts = []
        for choice in choices.parts:
            starts.append(self.own.new_label())
            for number in choice.means:
                labels[number] = starts[-1]
        numbers = tuple(sorted(list(labels)))
        if len(numbers) > MOST_NUMBERS:
            # So many have no way; a run tells them apart all the same.
            self.mark_wide()
            self.emit("choose", tuple([(number, labels[number]) for number in numbers]))
        else:
            self.case_rows(case_way(numbers)[1], labels)
        behind = self.own.new_label()
        for at, choice in enumerate(choices.parts):
            self.emit("label", starts[at])
            self.statement(choice.parts[1])
            if at + 1 < len(choices.parts):
                self.emit("jump", behind)
        self.emit("label", behind)

    def case_rows(self, way, labels):
        """C of a way."""
        if way[0] == "table":
            _, low, high = way
            self.emit("table", low, tuple([labels.get(number) for number in range(low, high + 1)]))
            return
        _, number, lower, upper = way
        other = self.own.new_label()
        self.emit("dup")
        self.emit("num", number)
        self.emit("le")
        self.emit("unless", other)
        self.case_rows(lower, labels)
        self.emit("label", other)
        self.case_rows(upper, labels)

    def open_with(self, node):
        """The rows of with."""
        variables, statement = node.parts
        for at, variable in enumerate(variables.parts):
            if at > 0:
                self.emit("line", self.line_of(node.first))
            self.place(variable, False)
            hidden = self.own.hidden("&" + layout_text(variable.kind))
            self.own.numbers[node.means[at]] = hidden
            self.emit("bind", hidden)
        self.statement(statement)
