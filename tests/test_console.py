"""The console (point 26)."""

import random
import unittest

from tests.helpers import FREE, RICH, S, T, any_values, example_store, store_with
from tests.making import make_question, make_store, make_tables
from tests.naive import naive_answer
from tests.test_effects import make_change
from whatturns.console import Console
from whatturns.errors import Broken, Full, InvalidCommand, InvalidQuestion, InvalidText
from whatturns.questions import Groups, Select
from whatturns.tables import Table

ONE = (("u", "t"),)
RICH_TEXT = "from t as u where u.p >= 4 keep u.a"
FREE_TEXT = "from t as u without s as w where w.b = u.a keep u.a"


def console():
    return Console(example_store().text())


def change_text(change):
    kind, name, *rows = change
    return " ".join([kind, name, " by ".join(" ".join(str(value) for value in row) for row in rows)])


def rows_text(rows):
    return "; ".join(" ".join(str(value) for value in row) for row in rows) or "none"


class Day:
    """What a console has to answer, by asking again in a store."""

    def __init__(self, store):
        self.store = store
        self.standing = []
        self.constraints = []

    def make(self, change):
        after = self.store.copy()
        if not after.do(change)[0]:
            return "nothing"
        barred = [str(number) for number, question in enumerate(self.constraints) if naive_answer(question, after)]
        if barred:
            return " ".join(["barred", *barred])
        turned = [str(number) for number, question in enumerate(self.standing)
                  if naive_answer(question, after) != naive_answer(question, self.store)]
        self.store.do(change)
        return " ".join(["done", *turned])

    def turns(self, change, question):
        after = self.store.copy()
        after.do(change)
        return "yes" if naive_answer(question, after) != naive_answer(question, self.store) else "no"


class Drawn(unittest.TestCase):
    def test_days_of_commands(self):
        chance = random.Random(131)
        self.said = []
        for _ in range(120):
            tables = make_tables(chance)
            day = Day(make_store(chance, tables, 3))
            found = Console(day.store.text())
            for _ in range(30):
                self.go_on(chance, found, day, tables)
                self.assertEqual(found.say("store"), day.store.text().replace("\n", " / "))
        words = [text.split(" ")[0] for text in self.said]
        for word in ("done", "barred", "nothing", "none", "yes", "no", "Full", "Broken", "InvalidQuestion"):
            self.assertGreater(words.count(word), 5, word)
        self.assertGreater(len([text for text in self.said if len(text.split(" ")) > 3]), 100)

    def go_on(self, chance, found, day, tables):
        deed = chance.choice(("change", "change", "change", "ask", "stand", "must", "turns", "rows", "strange"))
        question, change = make_question(chance, tables), make_change(chance, tables, day.store)
        if deed in ("change", "turns") and not day.store.is_change(change):
            return
        if deed == "change":
            told = day.make(change)
            self.assertEqual(found.say(change_text(change)), told)
        elif deed == "turns":
            told = day.turns(change, question)
            self.assertEqual(found.say(f"turns {change_text(change)} / {question.text()}"), told)
        elif deed == "ask":
            told = rows_text(naive_answer(question, day.store))
            self.assertEqual(found.say(f"ask {question.text()}"), told)
        elif deed == "rows":
            table = chance.choice(tables)
            told = rows_text(day.store.rows_of(table.name))
            self.assertEqual(found.say(f"rows {table.name}"), told)
        elif deed == "strange":
            told = "InvalidQuestion"
            strange = question.text().replace(f" as {chance.choice('uvwxyzt')}", " as from", 1).replace(".a", ".zz", 1)
            if ".zz" not in strange:
                return
            for word in ("ask", "stand", "must"):
                self.assertRaises(InvalidQuestion, found.say, f"{word} {strange}")
        elif deed == "stand":
            told = self.stand(found, day, question)
        else:
            told = self.demand(found, day, question)
        self.said.append(told)

    def stand(self, found, day, question):
        if len(day.standing) == 6:
            self.assertRaises(Full, found.say, f"stand {question.text()}")
            return "Full"
        self.assertEqual(found.say(f"stand {question.text()}"), str(len(day.standing)))
        day.standing.append(question)
        return "stand"

    def demand(self, found, day, question):
        if naive_answer(question, day.store):
            with self.assertRaises(Broken) as caught:
                found.say(f"must {question.text()}")
            self.assertEqual(caught.exception.number, len(day.constraints))
            return "Broken"
        if len(day.constraints) < 6:
            self.assertEqual(found.say(f"must {question.text()}"), str(len(day.constraints)))
            day.constraints.append(question)
        return "must"


class Commands(unittest.TestCase):
    def test_changes(self):
        found = console()
        found.say(f"stand {RICH_TEXT}")
        found.say(f"stand {FREE_TEXT}")
        found.say("stand from t as u group")
        self.assertEqual(found.say("insert t cat 9"), "done 0 1 2")
        self.assertEqual(found.say("insert t cat 9"), "nothing")
        self.assertEqual(found.say("insert t ann 4"), "done 2")
        self.assertEqual(found.say("replace t cat 9 by cat 10"), "done")
        self.assertEqual(found.say("replace t cat 9 by cat 11"), "nothing")
        self.assertEqual(found.say("delete s bob dog"), "nothing")
        self.assertEqual(found.say("insert s ann dog"), "nothing")
        self.assertEqual(found.say("delete s ann cat"), "done 1")
        self.assertEqual(found.say("insert t ann -12"), "done 2")
        self.assertEqual(found.say("insert t zoe 0"), "done 1 2")
        self.assertEqual(found.say("rows t"), "ann -12; ann 4; ann 5; bob 3; cat 10; zoe 0")
        self.assertEqual(found.say("rows s"), "none")

    def test_constraints(self):
        found = console()
        self.assertEqual(found.say("must from t as u where u.p >= 10 keep u.a"), "0")
        self.assertEqual(found.say("must from t as u, t as v where u.a = v.a, u.p != v.p keep u.a"), "1")
        self.assertEqual(found.say(command="insert t ann 10"), "barred 0 1")
        self.assertEqual(found.say("insert t ann 9"), "barred 1")
        self.assertEqual(found.say("insert t zoe 12"), "barred 0")
        self.assertEqual(found.say("insert t ann 5"), "nothing")
        self.assertEqual(found.say("replace t bob 3 by ann 9"), "barred 1")
        self.assertEqual(found.say("replace t ann 5 by ann 9"), "done")
        for text, number in [(RICH_TEXT, 2), ("from t as u group", 2)]:
            with self.assertRaises(Broken) as caught:
                found.say(f"must {text}")
            self.assertEqual(caught.exception.number, number)
        self.assertEqual(found.say("turns insert t zoe 12 / from t as u keep u.p"), "yes")
        self.assertEqual(found.say("rows t"), "ann 9; bob 3")

    def test_asking(self):
        found = console()
        self.assertEqual(found.say(f"ask {RICH_TEXT}"), "ann")
        self.assertEqual(found.say("ask from t as u keep u.p, u.a"), "3 bob; 5 ann")
        self.assertEqual(found.say("ask from t as u where u.p >= 6 keep u.a"), "none")
        self.assertEqual(found.say("ask from t as u group least u.p greatest u.p"), "2 3 5")
        self.assertEqual(found.say(f"ask {RICH_TEXT} or {FREE_TEXT}"), "ann; bob")
        self.assertEqual(found.say("ask from t as u keep u.a, u.p first 1 by u.p falling"), "ann 5")
        self.assertEqual(found.say("ask from t as u where u.p >= 9 group"), "none")

    def test_standing(self):
        found = console()
        for number in range(6):
            self.assertEqual(found.say(f"stand {RICH_TEXT}"), str(number))
        self.assertRaises(Full, found.say, f"stand {RICH_TEXT}")
        self.assertRaises(InvalidQuestion, found.say, "stand from t as u keep u.z")
        self.assertRaises(InvalidCommand, found.say, "stand from t as u")
        self.assertEqual(found.say("delete t ann 5"), "done 0 1 2 3 4 5")

    def test_turns(self):
        found = console()
        self.assertEqual(found.say(f"turns delete t ann 5 / {RICH_TEXT}"), "yes")
        self.assertEqual(found.say(f"turns delete t bob 3 / {RICH_TEXT}"), "no")
        self.assertEqual(found.say(f"turns delete t bob 4 / {RICH_TEXT}"), "no")
        self.assertEqual(found.say(f"turns insert t ann 5 / {RICH_TEXT}"), "no")
        self.assertEqual(found.say(f"turns replace t ann 5 by ann 4 / {RICH_TEXT}"), "no")
        self.assertEqual(found.say(f"turns replace t ann 5 by cat 4 / {RICH_TEXT}"), "yes")
        self.assertEqual(found.say(f"turns replace s ann cat by bob cat / {FREE_TEXT}"), "yes")
        self.assertEqual(found.say("rows t"), "ann 5; bob 3")

    def test_the_store(self):
        self.assertEqual(console().say("store"), "table t names a numbers p key - / row ann 5 / row bob 3 / "
                                                 "table s names b,c numbers - key b / row ann cat")

    def test_names_that_are_words_of_the_commands(self):
        table = Table("by", ("by", "row"), ("store",))
        other = Table("insert", ("ask",))
        third = Table("store", ("table",))
        found = Console(store_with(table, other, third).text())
        self.assertEqual(found.say("insert by by by 5"), "done")
        self.assertEqual(found.say("insert by replace by 6"), "done")
        self.assertEqual(found.say("replace by by by 5 by by by 7"), "done")
        self.assertEqual(found.say("replace by replace by 6 by by replace 6"), "done")
        self.assertEqual(found.say("rows by"), "by by 7; by replace 6")
        self.assertEqual(found.say("insert insert insert"), "done")
        self.assertEqual(found.say("insert store store"), "done")
        self.assertEqual(found.say("replace insert insert by by"), "done")
        self.assertEqual(found.say("rows insert"), "by")
        self.assertEqual(found.say("rows store"), "store")
        self.assertEqual(found.say("ask from store as keep keep keep.table"), "store")
        self.assertEqual(found.say("turns replace insert by by turns / from insert as ask keep ask.ask"), "yes")
        self.assertEqual(found.say("stand from by as by, insert as insert where by.by = insert.ask keep by.store"), "0")
        self.assertEqual(found.say("delete insert by"), "done 0")

    def test_tables_with_numbers_alone(self):
        found = Console("table n names - numbers p,q key p")
        self.assertEqual(found.say("rows n"), "none")
        self.assertEqual(found.say("insert n -5 0"), "done")
        self.assertEqual(found.say("replace n -5 0 by -5 10"), "done")
        self.assertEqual(found.say("insert n -5 1"), "nothing")
        self.assertEqual(found.say("store"), "table n names - numbers p,q key p / row -5 10")


class Errors(unittest.TestCase):
    WRONG = [
        "", " ", "  ", "help", "insert", "insert t", "insert t ann", "insert t ann 5 6", "insert z ann 5",
        "insert t 5 ann", "insert t ann five", "insert t ann 05", "insert t ann +5", "insert t ann -0",
        "insert t ann 5.0", "insert t ann --5", "insert t ann -", "insert t Ann 5", "insert t abcdefghi 5",
        "insert  t ann 5", "insert t  ann 5", "insert t ann  5", " insert t ann 5", "insert t ann 5 ",
        "insert t ann 5\n", "\ninsert t ann 5", "insert t\nann 5", "Insert t ann 5", "insert t ann 1_0",
        "insert t ann, 5", "insert t (ann 5)", "insert T ann 5", "insert t ann 5 by ann 6", "delete", "delete t",
        "delete t ann", "delete t ann 5 by bob 3", "delete u ann 5", "delete s ann 5", "delete t ann x",
        "replace t ann 5", "replace t ann 5 by", "replace t ann 5 ann 6", "replace t ann 5 by ann",
        "replace t by ann 5 ann 6", "replace t ann 5 by ann 6 7", "replace t ann 5 by by ann 6",
        "replace t ann 5 to ann 6", "replace t ann by 5 ann 6", "replace t ann 5 by s ann cat", "replace", "replace t",
        "by", "ask", "ask ", "stand", "must", "turns", "ask from", "ask from t as u", "ask from t as u keep u",
        "ask  from t as u keep u.a", "ask from t as u  keep u.a", "ask from t as u keep u.a ",
        " ask from t as u keep u.a", "ask From t as u keep u.a", "ask from t keep t.a",
        "ask from t as u where u.p = 05 keep u.a", "ask from t as u keep u.a first 0 by u.p",
        "ask from t as u keep u.a; rows t", "ask from t as u keep u.a / rows t", "asks from t as u keep u.a",
        "stand from t as u where keep u.a", "must from t as u keep u.a or", "rows", "rows ", "rows u", "rows t s",
        "rows t ", "rows  t", "Rows t", "rows T", "rows t,", "store ", " store", "store t", "stores", "store store",
        "STORE", "turns / from t as u keep u.a", "turns insert t ann 5", "turns insert t ann 5 /",
        "turns insert t ann 5 from t as u keep u.a", "turns insert t ann 5/ from t as u keep u.a",
        "turns insert t ann 5 /from t as u keep u.a", "turns insert t ann 5 / / from t as u keep u.a",
        "turns insert t ann / from t as u keep u.a", "turns insert z ann 5 / from t as u keep u.a",
        "turns rows t / from t as u keep u.a", "turns insert t ann 5 / from t as u",
        "turns from t as u keep u.a / insert t ann 5", "turns insert t ann 5 / ask from t as u keep u.a",
        "turns ask from t as u keep u.a", "turns  insert t a 5 / from t as u keep u.a", "done", "done 0", "nothing",
        "barred 0", "withdraw 0", "table t names a numbers p key -", "insert\tt ann 5", "/", "insert /",
        "insert t ann 5 / from t as u keep u.a", "stand 0", "delete t ann 5;",
        "turn insert t ann 5 / from t as u keep u.a", "rows insert t ann 5 / from t as u keep u.a",
        "turns change t ann 5 / from t as u keep u.a", "store insert t ann 5 / from t as u keep u.a",
        "turns turns t ann 5 / from t as u keep u.a", "insert t ?x 5", "insert t u.a 5"]

    def test_wrong_commands(self):
        found = console()
        for thing in [*self.WRONG, *any_values(), ["store"], ("store",), b"store", {"store": "store"}]:
            self.assertRaises(InvalidCommand, found.say, thing)
        self.assertEqual(found.say("store"), example_store().text().replace("\n", " / "))

    def test_wrong_commands_ahead_of_other_errors(self):
        found = console()
        for _ in range(6):
            found.say(f"stand {RICH_TEXT}")
        for text in ("stand from t as u keep u.z ", "must from z as u", "turns insert t ann / from t as u keep u.z",
                     "turns insert z ann 5 / from t as u keep u.z", "stand"):
            self.assertRaises(InvalidCommand, found.say, text)
        for text in ("stand from t as u keep u.z", "ask from z as u keep u.a", "must from t as u, t as u keep u.a",
                     "turns insert t ann 5 / from t as u keep u.z", "ask from t as u where u.a <= ann keep u.a",
                     "turns delete t zoe 5 / from t as u keep u.z", "must from t as u keep u.a or from t as u keep u.p",
                     "ask from t as u keep u.a first 1 by u.a", "ask from t as u group having least <= 4"):
            self.assertRaises(InvalidQuestion, found.say, text)
        self.assertRaises(Full, found.say, f"stand {RICH_TEXT}")

    def test_what_raises_changes_nothing(self):
        found = console()
        found.say(f"stand {RICH_TEXT}")
        found.say("must from t as u where u.p >= 10 keep u.a")
        for _ in range(2):
            for text in ("stand from t as u keep u.z", "must from t as u keep u.a", "insert t ann",
                         "must from z as u keep u.a",
                         "turns insert t cat 5 / from t as u keep u.z"):
                self.assertRaises(ValueError, found.say, text)
        self.assertEqual(found.say("must from t as u where u.p <= 0 keep u.a"), "1")
        self.assertEqual(found.say(f"stand {FREE_TEXT}"), "1")
        self.assertEqual(found.say("insert t cat 9"), "done 0 1")
        self.assertEqual(found.say("rows t"), "ann 5; bob 3; cat 9")

    def test_texts(self):
        for thing in [*any_values(), "", "table t", "row ann 5", example_store().text() + "\n"]:
            self.assertRaises(InvalidText, Console, thing)
        self.assertEqual(Console(text="table t names a numbers p key -\nrow bob 3\nrow ann 5").say("rows t"),
                         "ann 5; bob 3")

    def test_questions_with_the_meaning_of_the_text(self):
        found = console()
        for question in (RICH, FREE, Groups(ONE), Select(ONE, ("u.p",))):
            self.assertEqual(found.say(f"ask {question.text()}"), rows_text(question.answer_in(example_store())))
        self.assertEqual((T.name, S.name), ("t", "s"))
