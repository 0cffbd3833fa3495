"""Questions of the size that the document allows: turners come, are right, and come soon."""

import random
import time
import unittest

from tests.asking import check_turners
from tests.large import large_question, large_store
from whatturns.forms import Form
from whatturns.questions import Groups, Select
from whatturns.turning import turners

# Mostly they take a twentieth of a second; the bound leaves room for slow machines and for the largest of them.
LONGEST = 10


class Large(unittest.TestCase):
    def check_soon(self, question, store):
        start = time.perf_counter()
        data = turners(question, store).data()
        self.assertLess(time.perf_counter() - start, LONGEST, question.text())
        return data

    def test_drawn_questions(self):
        chance = random.Random(8)
        for _ in range(200):
            self.check_soon(large_question(chance), large_store(chance, chance.randint(7, 12)))

    def test_drawn_questions_beside_asking_again(self):
        chance = random.Random(9)
        for _ in range(40):
            store = large_store(chance, chance.randint(7, 9), chance.choice(((), (), ("a",), ("b", "q"))))
            check_turners(self, chance, large_question(chance), store, 2)

    def test_all_pairs_with_four_kept_columns(self):
        store = large_store(random.Random(10), 12)
        uses = (("u", "r"), ("v", "r"), ("w", "r"))
        where = (("u.a", "!=", "v.b"), ("u.p", "<=", "w.p"), ("v.q", ">=", "u.q"))
        inner = ((("x", "r"), ("y", "r")), (("x.p", ">=", "u.p"), ("y.q", "<=", "v.q"), ("x.a", "=", "y.b")))
        for withouts in ((), (inner,)):
            self.check_soon(Select(uses, ("u.a", "v.b", "w.p", "u.q"), where, withouts), store)
            self.check_soon(Groups(uses, ("u.a", "v.b"), where, withouts, "w.p", "u.q", (("count", ">=", 2),)), store)

    def test_two_sided_staircases(self):
        store = large_store(random.Random(11), 12)
        question = Select((("u", "r"), ("v", "r")), ("u.a", "v.b"),
                          (("u.p", "<=", "v.p"), ("u.q", ">=", "v.q"), ("u.a", "!=", "v.a"), ("u.b", "!=", "v.b")))
        inserts = turners(question, store).inserts("r")
        self.assertEqual(Form.read(inserts.table, inserts.tree), inserts)
        self.assertEqual(inserts.leaves(), (False, True))
        check_turners(self, random.Random(12), question, store, 3)
