"""A store whose constraints, questions without an answer, are kept."""

from whatturns.asking import check_question, copy_of
from whatturns.errors import Barred, Broken, InvalidShape
from whatturns.forms import Form
from whatturns.substitutes import substituted
from whatturns.templates import are_templates, parameters_in, parameters_table
from whatturns.turning import turners


class Guard:
    """A copy of a store, and the constraints, numbered in the order in which they were made such."""

    def __init__(self, store, *questions):
        for question in questions:
            check_question(question, store.tables)
        self._store = store.copy()
        self._constraints = []
        self._forms = {}
        for question in questions:
            self.demand(question)

    def demand(self, question):
        """Make a question without an answer a constraint, and return its number."""
        check_question(question, self._store.tables)
        number = len(self._constraints)
        if question.answer_in(self._store):
            raise Broken(number)
        self._constraints.append(copy_of(question))
        self._forms = {}
        return number

    def barred_by(self, change):
        """The numbers of the constraints that would have an answer after the change."""
        after = self._store.copy()
        after.do(change)
        return tuple([number for number, question in enumerate(self._constraints) if question.answer_in(after)])

    def barred(self, table):
        """The form that is true where the insert of the row is possible and barred."""
        nowhere = Form.constant(self._store.table_of(table), False)
        if table not in self._forms:
            form = nowhere
            for question in self._constraints:
                # There is no answer now, so that another answer is one that breaks the constraint.
                form = form | turners(question, self._store).inserts(table)
            self._forms[table] = form
        return self._forms[table]

    def barred_template(self, table, template):
        """The form over the parameters that is true where the insert of the row with these values is barred."""
        here = self._store.table_of(table)
        if not are_templates([template], here) or not any(parameters_in([template], here)):
            raise InvalidShape()
        return Form(parameters_table(template, here), substituted(self.barred(table).tree, template))

    def do(self, change):
        """Make the change, and return whether it was possible."""
        numbers = self.barred_by(change)
        if numbers:
            raise Barred(numbers)
        self._forms = {}
        return self._store.do(change)[0]

    def snapshot(self):
        """A copy of the store."""
        return self._store.copy()
