"""Boards (point 18)."""

import random
import unittest

from tests.asking import sample_rows, turned
from tests.helpers import FREE, RICH, S, T, any_values, example_store
from tests.making import make_question, make_store, make_tables
from tests.test_effects import make_change
from whatturns.boards import Board
from whatturns.errors import Full, InvalidChange, InvalidQuestion, UnknownNumber, UnknownTable
from whatturns.forms import Form
from whatturns.questions import Groups, Question, Select
from whatturns.stores import Store
from whatturns.turning import turners

ONE = (("u", "t"),)


class Drawn(unittest.TestCase):
    def check(self, chance, board, standing, store):
        self.assertEqual(board.questions, tuple(sorted(standing.items())))
        self.assertEqual(board.snapshot(), store)
        for table in store.tables:
            form = board.form_of(table.name)
            self.assertEqual(Form.read(table, form.tree), form)
            forms = {number: turners(question, store).inserts(table.name) for number, question in standing.items()}
            for row in sample_rows(chance, table, store, 6):
                change = ("insert", table.name, row)
                told = tuple(number for number in sorted(standing) if turned(standing[number], store, change)[1])
                self.assertEqual(form(row), told)
                self.assertEqual(told, tuple(number for number in sorted(standing) if forms[number](row)))
                self.assertEqual(board.turned_by(change), told)

    def test_many_deeds(self):
        chance = random.Random(41)
        for _ in range(60):
            tables = make_tables(chance)
            store = make_store(chance, tables, 3)
            board = Board(store)
            standing, given, kept = {}, 0, []
            for _ in range(25):
                deed = chance.choice(("stand", "stand", "withdraw", "do", "do", "turned_by"))
                change = make_change(chance, tables, store)
                if deed == "stand":
                    question = make_question(chance, tables)
                    if len(standing) == 6:
                        self.assertRaises(Full, board.stand, question)
                    else:
                        self.assertEqual(board.stand(question), given)
                        standing[given] = question
                        given += 1
                elif deed == "withdraw" and standing:
                    number = chance.choice(sorted(standing))
                    self.assertIsNone(board.withdraw(number))
                    del standing[number]
                elif store.is_change(change):
                    told = tuple(number for number in sorted(standing) if turned(standing[number], store, change)[1])
                    self.assertEqual(board.turned_by(change), told)
                    if deed == "do":
                        self.assertEqual(board.do(change), told)
                        store.do(change)
                kept.append((board.questions, tuple(sorted(standing.items()))))
            self.check(chance, board, standing, store)
            for found, expected in kept:
                self.assertEqual(found, expected)


class Boards(unittest.TestCase):
    def test_numbers_are_not_used_again(self):
        board = Board(example_store())
        self.assertEqual([board.stand(RICH), board.stand(FREE), board.stand(RICH)], [0, 1, 2])
        board.withdraw(2)
        board.withdraw(number=0)
        self.assertEqual(board.stand(question=RICH), 3)
        self.assertEqual(board.questions, ((1, FREE), (3, RICH)))
        self.assertEqual(board.turned_by(("insert", "t", ("cat", 9))), (1, 3))

    def test_six_stand(self):
        board = Board(example_store())
        self.assertEqual([board.stand(RICH) for _ in range(6)], [0, 1, 2, 3, 4, 5])
        self.assertRaises(Full, board.stand, RICH)
        self.assertRaises(InvalidQuestion, board.stand, Select(ONE, ("u.z",)))
        self.assertEqual(len(board.questions), 6)
        board.withdraw(4)
        self.assertEqual(board.stand(FREE), 6)
        self.assertEqual([number for number, _ in board.questions], [0, 1, 2, 3, 5, 6])

    def test_forms(self):
        board = Board(example_store())
        self.assertEqual(board.form_of("t"), Form.constant(T, ()))
        board.stand(RICH)
        board.stand(FREE)
        form = board.form_of(table="t")
        self.assertEqual(form.leaves(), ((), (0,), (0, 1), (1,)))
        self.assertEqual([form(row) for row in [("cat", 9), ("cat", 3), ("bob", 9), ("bob", 3), ("ann", 9)]],
                         [(0, 1), (1,), (0,), (), ()])
        self.assertEqual(board.form_of("s")(("bob", "x")), (1,))

    def test_the_form_is_that_of_now(self):
        board = Board(example_store())
        board.stand(RICH)
        before = board.form_of("t")
        self.assertEqual(before(("ann", 7)), ())
        self.assertEqual(board.do(("delete", "t", ("ann", 5))), (0,))
        self.assertEqual((board.form_of("t")(("ann", 7)), before(("ann", 7))), ((0,), ()))
        board.withdraw(0)
        self.assertEqual(board.form_of("t"), Form.constant(T, ()))

    def test_changes_that_are_not_possible(self):
        board = Board(example_store())
        board.stand(Groups(ONE))
        for change in [("insert", "t", ("ann", 5)), ("delete", "t", ("ann", 6)), ("insert", "s", ("ann", "x"))]:
            self.assertEqual((board.turned_by(change=change), board.do(change=change)), ((), ()))
        self.assertEqual(board.snapshot(), example_store())

    def test_nothing_is_shared(self):
        store = example_store()
        board = Board(store)
        question = Select(ONE, ("u.a",), (("u.p", ">=", 4),))
        board.stand(question)
        store.do(("delete", "t", ("ann", 5)))
        self.assertEqual(board.snapshot(), example_store())
        board.snapshot().do(("delete", "t", ("ann", 5)))
        self.assertEqual(board.do(("delete", "t", ("ann", 5))), (0,))
        question.where = ()
        self.assertEqual(board.turned_by(("insert", "t", ("zoe", 1))), ())
        self.assertEqual(len(store), 2)
        told = board.questions
        board.stand(FREE)
        self.assertEqual(told, ((0, RICH),))

    def test_turned_by_makes_nothing(self):
        board = Board(example_store())
        board.stand(RICH)
        self.assertEqual(board.turned_by(("delete", "t", ("ann", 5))), (0,))
        self.assertEqual((board.snapshot(), board.turned_by(("delete", "t", ("ann", 5)))), (example_store(), (0,)))


class Errors(unittest.TestCase):
    def test_questions(self):
        board = Board(store=example_store())
        for thing in [*any_values(), Select(ONE, ("u.z",))]:
            if not (isinstance(thing, Question) and thing.fits(T, S)):
                self.assertRaises(InvalidQuestion, board.stand, thing)
        self.assertEqual((board.questions, board.stand(RICH)), ((), 0))

    def test_numbers(self):
        board = Board(example_store())
        for _ in range(2):
            board.stand(RICH)
        board.stand(FREE)
        board.withdraw(2)
        others = [value for value in any_values() if type(value) is not int]
        for thing in [2, 3, -1, True, False, "0", (0,), 10 ** 30, *others]:
            with self.assertRaises(UnknownNumber) as caught:
                board.withdraw(thing)
            self.assertIs(caught.exception.number, thing)
        self.assertEqual(len(board.questions), 2)

    def test_tables_and_changes(self):
        board = Board(example_store())
        board.stand(RICH)
        for thing in any_values():
            if thing != "t":
                with self.assertRaises(UnknownTable) as caught:
                    board.form_of(thing)
                self.assertIs(caught.exception.name, thing)
            for method in (board.turned_by, board.do):
                with self.assertRaises(InvalidChange) as caught:
                    method(thing)
                self.assertIs(caught.exception.change, thing)
        self.assertRaises(InvalidChange, Board(Store(T)).do, ("insert", "t", ("ann", True)))
        self.assertEqual(board.snapshot(), example_store())
