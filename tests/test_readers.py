"""Reading questions (point 12)."""

import random
import unittest

from tests.helpers import FREE, RICH, any_values
from tests.large import large_question
from tests.making import make_question, make_tables
from whatturns.errors import InvalidText
from whatturns.questions import First, Groups, Question, Select, Union
from whatturns.readers import read_question

U = (("u", "t"),)
WORDS = ["from", "as", "where", "without", "keep", "or", "first", "by", "falling", "group", "least", "greatest",
         "having", "count", "u", "t", "u.a", "u.p", "t.t", "=", "!=", "<=", ">=", "<", "0", "1", "-1", "-0", "01", "",
         ",", "u,", "u.a,", "4,", ".", "u.", ".a", "u.a.b", "A", "abcdefghi", "a1", "keep.keep", "\n"]


def is_read(text):
    try:
        found = read_question(text)
    except InvalidText:
        return False
    assert isinstance(found, Question) and found.text() == text
    return True


class Examples(unittest.TestCase):
    def test_each_part(self):
        for text, expected in [
                ("from t as u keep u.a", Select(U, ("u.a",))),
                ("from t as u, s as w keep u.a, w.b", Select((("u", "t"), ("w", "s")), ("u.a", "w.b"))),
                ("from t as u where u.p >= 4 keep u.a", RICH),
                ("from t as u without s as w where w.b = u.a keep u.a", FREE),
                ("from t as u where u.a = ann, u.p != -12, u.p <= u.q keep u.a",
                 Select(U, ("u.a",), (("u.a", "=", "ann"), ("u.p", "!=", -12), ("u.p", "<=", "u.q")))),
                ("from t as u where u.p = 0 without s as w, s as v without s as x where x.b = u.a, x.c != y keep u.a",
                 Select(U, ("u.a",), (("u.p", "=", 0),), (((("w", "s"), ("v", "s")), ()),
                        ((("x", "s"),), (("x.b", "=", "u.a"), ("x.c", "!=", "y")))))),
                ("from t as u keep u.a or from t as u where u.p >= 4 keep u.a", Union(Select(U, ("u.a",)), RICH)),
                ("from t as u keep u.p first 12 by u.p", First(Select(U, ("u.p",)), "u.p", 12)),
                ("from t as u keep u.p first 1 by u.p falling", First(Select(U, ("u.p",)), "u.p", 1, True)),
                ("from t as u group", Groups(U)),
                ("from t as u group u.a", Groups(U, ("u.a",))),
                ("from t as u where u.p >= 4 group u.a, u.b least u.p greatest u.q having count >= 2, least <= -3",
                 Groups(U, ("u.a", "u.b"), (("u.p", ">=", 4),), (), "u.p", "u.q",
                        (("count", ">=", 2), ("least", "<=", -3)))),
                ("from t as u without s as w group having greatest <= 0",
                 Groups(U, (), (), (((("w", "s"),), ()),), having=(("greatest", "<=", 0),))),
                ("from t as u group least u.p", Groups(U, least="u.p")),
                ("from t as u group greatest u.p", Groups(U, greatest="u.p"))]:
            self.assertEqual(read_question(text), expected, text)
            self.assertEqual(expected.text(), text)
        self.assertEqual(read_question(text=RICH.text()), RICH)

    def test_words_of_the_language_as_names(self):
        for text in ["from from as from keep from.from", "from where as keep where keep.or = by keep keep.first",
                     "from as as as, or as or without without as without where or.or = without.or keep as.as",
                     "from group as group group group.group least group.least greatest group.by having count <= 1",
                     "from first as first keep first.by first 1 by first.by falling",
                     "from or as or keep or.or or from or as or keep or.or"]:
            self.assertTrue(is_read(text), text)

    def test_by_its_form_alone(self):
        for text in ["from t as u, t as u, t as u, t as u keep x.a, y.b, y.b, y.b, y.b",
                     "from t as u where z.a >= ann, z.a <= z.a, z.a <= 5, z.p = 999999999999999 keep u.a",
                     "from t as u without t as u, t as u, t as u without t as u without t as u keep u.a",
                     "from t as u keep u.a or from t as u keep u.a, u.a",
                     "from t as u keep u.a first 1 by w.z",
                     "from t as u group u.a, u.a, u.a least x.x greatest x.x having least <= 1, least <= 1",
                     "from t as u group having least <= 1"]:
            self.assertTrue(is_read(text), text)


class NoTexts(unittest.TestCase):
    def test_values_that_are_no_texts(self):
        for thing in [*any_values(), RICH, b"from t as u keep u.a", ["from"]]:
            self.assertRaises(InvalidText, read_question, thing)

    def test_wrong_texts(self):
        for text in ["from t as u", "from keep u.a", "from t u keep u.a", "from t as u keep", "keep u.a",
                     "from t as u keep u",
                     "From t as u keep u.a", "from t as u keep u.a ", " from t as u keep u.a", "from t  as u keep u.a",
                     "from t as u keep u.a,", "from t as u keep ,u.a", "from t as u keep u.a , u.b",
                     "from t as u, keep u.a",
                     "from t as u keep u.a,u.b", "from t as u keep u.a u.b", "from t as u keep u.a.b",
                     "from t as u keep .a",
                     "from t as u keep u.", "from t as u where keep u.a", "from t as u where u.a = keep u.a",
                     "from t as u where u.a ann keep u.a", "from t as u where u.a == ann keep u.a",
                     "from t as u where u.a < ann keep u.a", "from t as u where ann = u.a keep u.a",
                     "from t as u where u.p = 05 keep u.a", "from t as u where u.p = -0 keep u.a",
                     "from t as u where u.p = +5 keep u.a", "from t as u where u.p = 5.0 keep u.a",
                     "from t as u where u.p = - keep u.a", "from t as u where u.p = --5 keep u.a",
                     "from t as u without keep u.a", "from t as u without s as w where keep u.a",
                     "from t as u keep u.a without s as w", "from t as u keep u.a where u.a = ann",
                     "from t as u keep u.a or", "from t as u keep u.a or from t as u group",
                     "from t as u keep u.a or from t as u keep u.a or from t as u keep u.a",
                     "from t as u keep u.a or from t as u keep u.a first 1 by u.a",
                     "from t as u keep u.a first 0 by u.a", "from t as u keep u.a first -1 by u.a",
                     "from t as u keep u.a first by u.a", "from t as u keep u.a first 1 by a",
                     "from t as u keep u.a first 1 by u.a falling falling", "from t as u keep u.a falling",
                     "from t as u keep u.a first 1 by u.a, u.a", "from t as u keep u.a first one by u.a",
                     "from t as u keep u.a group", "from t as u group keep u.a", "from t as u group u.a,",
                     "from t as u group least", "from t as u group least u.p, u.q",
                     "from t as u group greatest u.p least u.p",
                     "from t as u group least u.p least u.p", "from t as u group having",
                     "from t as u group having count = 1",
                     "from t as u group having count != 1", "from t as u group having count >= u.p",
                     "from t as u group having counts >= 1", "from t as u group having count >= one",
                     "from t as u group having count >= 1 least u.p", "from t as u group first 1 by u.p",
                     "from t as u group or from t as u group", "from T as u keep u.a", "from t as u1 keep u.a",
                     "from abcdefghi as u keep u.a", "from t as u keep u.abcdefghi", "from t as u keep u.a\n",
                     "from t as u\nkeep u.a", "from t as u where u.a = ann\n keep u.a", "", " ", "from", "group"]:
            self.assertRaises(InvalidText, read_question, text)
            self.assertFalse(is_read(text), text)


class Drawn(unittest.TestCase):
    def test_each_text_read_again(self):
        chance = random.Random(12)
        for _ in range(1500):
            question = make_question(chance, make_tables(chance)) if chance.random() < 0.8 else large_question(chance)
            again = read_question(question.text())
            self.assertEqual(again, question)
            self.assertEqual((type(again), again.text()), (type(question), question.text()))

    def test_changed_texts(self):
        # A text that is read is the text of what is read; so nothing else is taken for a text.
        chance = random.Random(13)
        taken = 0
        for _ in range(6000):
            words = make_question(chance, make_tables(chance)).text().split(" ")
            for _ in range(chance.randint(1, 2)):
                at = chance.randrange(len(words))
                words = chance.choice([
                    words[:at] + [chance.choice(WORDS)] + words[at + 1:], words[:at] + words[at + 1:],
                    words[:at] + [chance.choice(WORDS)] + words[at:], words[:at] + words[at:at + 1] + words[at:],
                    words[:at] + [words[at].replace(",", "")] + words[at + 1:],
                    words[:at] + [words[at] + ","] + words[at + 1:], words[:at] + [""] + words[at:],
                    words[:at] + words[at:][::-1], words[at:] + words[:at]]) or [""]
            taken += is_read(" ".join(words))
        self.assertGreater(taken, 300)

    def test_signs_added_and_removed(self):
        chance = random.Random(14)
        for _ in range(3000):
            text = make_question(chance, make_tables(chance)).text()
            at = chance.randrange(len(text) + 1)
            is_read(chance.choice([text[:at] + chance.choice(" ,.-=\na1") + text[at:], text[:at] + text[at + 1:]]))
