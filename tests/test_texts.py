"""Texts of TERMS and VIEW WORDS, written and read; SHEETS; desks."""

import unittest

from forehouse import desk, judge, texts
from forehouse.errors import (BadFraction, BadLadder, BadTerm, BadText, BadWords, BadWorld)
from forehouse.house import House
from forehouse.knows import common, does_know
from forehouse.rests import is_wider, rest_at
from forehouse.terms import world_of
from forehouse.viewwords import view_of
from forehouse.views import forecasts, is_finer, share_of
from tests import wrongs
from tests.makers import Maker, whole, world_of_integers, worth
from tests.test_house import any_said
from tests.test_terms import in_words
from tests.wrongs import ODD

WORLD = world_of_integers((1, 0), (2, 3), (3, 6))
STATES = ("states", WORLD)
LINE = "states 3 1 0 2 3 3 6"
# No strings.
NO_TEXTS = tuple(thing for thing in ODD if not isinstance(thing, str)) + (7, ("states",), [LINE])

TERMS = (
    (STATES, LINE),
    (("states", (((1, 3), (-5, 7)),)), "states 1 1/3 -5/7"),
    (("beside", STATES, ("moved", STATES, whole(-1))), "beside " + LINE + " moved -1 " + LINE),
    (("scaled", STATES, (1, 2), whole(0)), "scaled 1/2 0 " + LINE),
    (("split", STATES, 2, ((1, 2), whole(3))), "split 2 2 1/2 3 " + LINE),
    (("spread", STATES, 1, (5, 2), whole(4)), "spread 1 5/2 4 " + LINE),
    (("pooled", STATES, (0, 2)), "pooled 2 0 2 " + LINE),
    (("moved", ("pooled", STATES, (1,)), (-1, 3)), "moved -1/3 pooled 1 1 " + LINE))

WORDS = (
    (("none",), "none"), (("each",), "each"), (("worths",), "worths"),
    (("marks", ((-1, 2), whole(4))), "marks 2 -1/2 4"),
    (("cells", ((0, 2), (1,))), "cells 2 2 0 2 1 1"),
    (("join", ("each",), ("core", ("none",))), "join each core none"),
    (("meet", ("marks", (whole(0),)), ("cells", ((0, 1, 2),))), "meet marks 1 0 cells 1 3 0 1 2"),
    (("core", ("join", ("none",), ("worths",))), "core join none worths"))


class TextTest(unittest.TestCase):

    def bad_text(self, call, text, line, word):
        with self.assertRaises(BadText) as caught:
            call(text)
        self.assertEqual((caught.exception.line, caught.exception.word), (line, word), text)

    def bad_term(self, text, line, word):
        self.bad_text(texts.read_term, text, line, word)

    def bad_words(self, text, line, word):
        self.bad_text(lambda given: texts.read_words(WORLD, given), text, line, word)


class WrittenTest(TextTest):

    def test_by_hand(self):
        for term, text in TERMS:
            self.assertEqual(texts.term_text(term), text)
            self.assertEqual(texts.read_term(text), term)
        for words, text in WORDS:
            self.assertEqual(texts.words_text(WORLD, words), text)
            self.assertEqual(texts.read_words(WORLD, text), words)

    def test_long_integers(self):
        big = 10 ** 3999
        for number in (big, -big, (big, big + 1)):
            number = number if isinstance(number, tuple) else whole(number)
            text = texts.term_text(("moved", STATES, number))
            self.assertIn("1" + "0" * 3999, text)
            self.assertRaises(BadText, texts.read_term, text)
        self.assertEqual(texts.words_text(WORLD, ("marks", ((1, big),))), "marks 1 1/1" + "0" * 3999)

    def test_errors_in_turn(self):
        for thing in ODD + wrongs.TERMS:
            with self.assertRaises(BadTerm) as caught:
                texts.term_text(thing)
            self.assertEqual(caught.exception.path, ())
        self.assertRaises(BadWorld, texts.words_text, (), None)
        self.assertRaises(BadWorld, texts.read_words, (), None)
        for thing in ODD + wrongs.VIEW_WORDS:
            self.assertRaises(BadWords, texts.words_text, WORLD, thing)
        with self.assertRaises(BadWords) as caught:
            texts.words_text(WORLD, ("core", ("cells", ((0,), (1,)))))
        self.assertEqual(caught.exception.path, (1,))

    def test_there_and_back(self):
        maker = Maker(200)
        for _ in range(250):
            term, many = maker.term(8)
            text = texts.term_text(term)
            self.assertEqual(texts.read_term(text), term)
            words = maker.view_words(many)
            told = texts.words_text(world_of(term), words)
            self.assertEqual(texts.read_words(world_of(term), told), words)
            self.cut(text, texts.read_term)
            self.cut(told, lambda given, term=term: texts.read_words(world_of(term), given))

    def cut(self, text, read):
        """A word too few, too many, or one more line."""
        many = len(text.split(" "))
        self.bad_text(read, text.rpartition(" ")[0], 0, max(many - 1, 0) if many > 1 else 0)
        for more in (" x", " ", " 1"):
            self.bad_text(read, text + more, 0, many)
        for more in ("\n", "\nx", "\n\n"):
            self.bad_text(read, text + more, 1, 0)


class FormTest(TextTest):

    def test_no_strings(self):
        for thing in NO_TEXTS:
            self.bad_term(thing, None, None)
            self.bad_words(thing, None, None)
            self.bad_text(judge.judged, thing, None, None)
            self.bad_text(desk.Desk, thing, None, None)

    def test_lacking_words(self):
        for text, word in (("", 0), (" ", 0), ("states", 1), ("states 1", 2), ("states 1 1", 3),
                           ("states 2 1 0", 4), ("beside", 1), ("beside " + LINE, 9), ("moved", 1),
                           ("moved 1", 2), ("scaled 1", 2), ("scaled 1 1", 3), ("split", 1),
                           ("split 0", 2), ("split 0 2 1", 4), ("split 0 2 1 1", 5), ("spread 0 1", 3),
                           ("spread 0 1 2", 4), ("pooled", 1), ("pooled 2 0", 3), ("pooled 1 0", 3)):
            self.bad_term(text, 0, word)
        for text, word in (("", 0), ("marks", 1), ("marks 2 0", 3), ("cells", 1), ("cells 1", 2),
                           ("cells 1 2 0", 4), ("cells 2 1 0", 4), ("join", 1), ("join none", 2),
                           ("core", 1), ("meet core none", 3)):
            self.bad_words(text, 0, word)

    def test_spaces_and_lines(self):
        for text, word in ((" " + LINE, 0), (LINE + " ", 8), (LINE.replace(" 2", "  2", 1), 4),
                           (LINE + "  ", 8), ("states  3", 1), ("\t" + LINE, 0), ("states\t3", 0)):
            self.bad_term(text, 0, word)
        self.bad_term(LINE + "\n", 1, 0)
        self.bad_term(LINE + "\n" + LINE, 1, 0)
        self.bad_term("\n" + LINE, 0, 0)
        # What is wrong in the first line is told ahead of a line too many.
        self.bad_term(LINE + " x\nx", 0, 8)
        self.bad_words("each\n", 1, 0)
        self.bad_words("each \n", 0, 1)

    def test_integers(self):
        for word in ("-0", "00", "01", "+1", "1.0", "1e3", "", "-", "--1", "1-", "0x1", "one", "1_0",
                     "-01", "/", "1/", "/1", "1/0", "1/-2", "1/02", "1/+2", "-0/1", "1/2/3", "01/2",
                     "9" * 32, "-" + "9" * 32, "1/" + "9" * 32, "9" * 32 + "/7", "\u00b2", "\u0661",
                     "1/\u00b2", " "):
            self.bad_term("moved " + word + " " + LINE, 0, 1)
            self.bad_words("marks 1 " + word, 0, 2)
        for word in ("9" * 31, "-" + "9" * 31, "1/" + "9" * 31, "-" + "7" * 31 + "/8", "0", "-1",
                     "5/1", "-2/3"):
            term = texts.read_term("moved " + word + " states 1 1 0")
            top, _, bottom = word.partition("/")
            self.assertEqual(term[2], (int(top), int(bottom or 1)))

    def test_what_has_no_minus(self):
        for word in ("-1", "1/2", "01", "-0", "", "x", "9" * 32):
            self.bad_term("split " + word + " 2 1 1 " + LINE, 0, 1)
            self.bad_term("spread " + word + " 2 4 " + LINE, 0, 1)
            self.bad_term("pooled 1 " + word + " " + LINE, 0, 2)
            self.bad_term("pooled " + word + " 0 " + LINE, 0, 1)
            self.bad_term("states " + word + " 1 0", 0, 1)
            self.bad_term("split 0 " + word + " 1 1 " + LINE, 0, 2)
            self.bad_words("marks " + word + " 0", 0, 1)
            self.bad_words("cells " + word + " 1 0", 0, 1)
            self.bad_words("cells 1 " + word + " 0", 0, 2)
            self.bad_words("cells 1 1 " + word, 0, 3)

    def test_how_many(self):
        for word in ("0", "37", "100"):
            self.bad_term("states " + word + " 1 0", 0, 1)
            self.bad_term("pooled " + word + " 0 " + LINE, 0, 1)
            self.bad_words("cells " + word + " 1 0", 0, 1)
            self.bad_words("cells 1 " + word + " 0", 0, 2)
        for word in ("0", "1", "7"):
            self.bad_term("split 0 " + word + " 1 1 " + LINE, 0, 2)
        for word in ("0", "6"):
            self.bad_words("marks " + word + " 0", 0, 1)
        six = "split 0 6 1 1 1 1 1 1 " + LINE
        self.assertEqual(len(world_of(texts.read_term(six))), 8)
        self.assertEqual(texts.read_words(WORLD, "marks 5 0 1 2 3 4")[1][4], whole(4))
        many = "states 36" + " 1 0" * 36
        self.assertEqual(len(world_of(texts.read_term(many))), 36)
        cell = "36 " + " ".join(map(str, range(36)))
        self.assertEqual(len(world_of(texts.read_term("pooled " + cell + " " + many))), 36)

    def test_words_that_cannot_stand(self):
        for text, word in (("state 1", 0), ("States 1", 0), ("each", 0), ("moved 1 each", 2),
                           ("moved 1 moved 1 none", 4), ("moved 1 1", 2), ("beside 1", 1),
                           ("beside " + LINE + " " + "x", 9), (LINE + " " + LINE, 8),
                           ("scaled 1 x " + LINE, 2), ("scaled x 1 " + LINE, 1)):
            self.bad_term(text, 0, word)
        for text, word in (("states", 0), ("Each", 0), ("join each each each", 3), ("core 1", 1),
                           ("each each", 1), ("worths 1", 1), ("marks 1 0 1", 3), ("none x", 1),
                           ("join x", 1), ("join each x", 2), ("cells 1 3 0 1 2 3", 6)):
            self.bad_words(text, 0, word)

    def test_what_has_the_form_and_is_none(self):
        for text, path in (("moved 2/4 " + LINE, ()), ("moved 0/5 " + LINE, ()),
                           ("scaled -1 1 " + LINE, ()), ("scaled 0 1 " + LINE, ()),
                           ("states 1 0 1", ()), ("states 1 -1/2 1", ()), ("states 1 1 3/3", ()),
                           ("split 3 2 1 1 " + LINE, ()), ("split 99 2 1 1 " + LINE, ()),
                           ("split " + "9" * 31 + " 2 1 1 " + LINE, ()),
                           ("split 0 2 1 0 " + LINE, ()), ("pooled 2 1 0 " + LINE, ()),
                           ("pooled 2 0 0 " + LINE, ()), ("pooled 1 36 " + LINE, ()),
                           ("spread 0 1 2 " + LINE, ()), ("moved 1 spread 0 1 2 " + LINE, (1,)),
                           ("beside " + LINE + " moved 2/2 " + LINE, (2,))):
            with self.assertRaises(BadTerm) as caught:
                texts.read_term(text)
            self.assertEqual(caught.exception.path, path, text)
        for text, path in (("marks 2 1 0", ()), ("marks 1 2/4", ()), ("cells 1 1 0", ()),
                           ("cells 1 3 0 1 3", ()), ("core cells 2 2 1 0 1 2", (1,)),
                           ("cells 1 3 0 1 99", ()), ("join each marks 1 3/3", (2,)),
                           ("core " * 8 + "each", ())):
            with self.assertRaises(BadWords) as caught:
                texts.read_words(WORLD, text)
            self.assertEqual(caught.exception.path, path, text)
        # "5/1" is a FRACTION in least terms.
        self.assertEqual(texts.read_term("moved 5/1 " + LINE), ("moved", STATES, whole(5)))

    def test_the_41st_word_and_the_21st(self):
        text = "moved 1 " * 39 + LINE
        self.assertEqual(texts.read_term(text), in_words(39))
        # Where it would come it cannot stand, whatever it is, also if there is none.
        for end in (LINE, "x", "", "moved"):
            self.bad_term("moved 1 " * 40 + end, 0, 80)
        self.bad_term(("moved 1 " * 40)[:-1], 0, 80)
        self.bad_term("moved 1 " * 38 + "beside " + LINE + " " + LINE, 0, 85)
        self.bad_term("moved 1 " * 40 + LINE + "\nx", 0, 80)
        # 15 words in a tree, and 4 in a row.
        tree = "join each each"
        for _ in range(2):
            tree = "join " + tree + " " + tree
        twenty = "meet " + tree + " core core core none"
        self.assertEqual(texts.words_text(WORLD, texts.read_words(WORLD, twenty)), twenty)
        # 19 words have the form, though they stand too deep within one another.
        with self.assertRaises(BadWords) as caught:
            texts.read_words(WORLD, "join " * 9 + "each" + " each" * 9)
        self.assertEqual(caught.exception.path, ())
        self.bad_words("meet " + tree + " core core core core none", 0, 20)
        for end in ("each", "x", "", "1"):
            self.bad_words("core " * 20 + end, 0, 20)
        self.bad_words("join " * 10 + "each" + " each" * 9 + " x", 0, 20)


class SheetTest(TextTest):

    SHEET = "states 4 1 0 1 2 1 4 1 6\ncells 2 2 0 1 2 2 3\nworths"

    def judge(self, *sayings, sheet=SHEET):
        return judge.judged("\n".join((sheet,) + sayings))

    def test_each_saying_by_hand(self):
        for saying, so in (
                ("states 4", True), ("states 3", False), ("states 0", False), ("cells 2", True),
                ("cells 4", False), ("together 0 1", True), ("together 1 0", True),
                ("together 3 3", True), ("together 1 2", False), ("together 0 4", False),
                ("together 4 0", False), ("together 4 4", False), ("forecast 0 1", True), ("forecast 1 2/2", True),
                ("forecast 3 10/2", True), ("forecast 3 4", False), ("forecast 4 5", False),
                ("finer", False), ("wider", False), ("rest 1 8", True), ("rest 2/2 16/2", True),
                ("rest 1 7", False), ("rest -1 16", True), ("rest 99 0", True), ("knows 0 0 1", True),
                ("knows 0 0 1 3", True), ("knows 0 0", False), ("knows 0", False),
                ("knows 0 1 0", False), ("knows 0 0 0 1", False), ("knows 0 -1 0 1", False),
                ("knows 0 0 1 4", False), ("knows 4 0 1 2 3", False), ("knows 2 0 1", False),
                ("common 0 0 1", True), ("common 0 0", False), ("common 2 2 3", True),
                ("common 2 0 1 2 3", True), ("common 9 0 1 2 3", False), ("common 0", False),
                ("common 0 -1", False)):
            self.assertEqual(self.judge(saying), (so,), saying)
        self.assertEqual(self.judge(), ())
        self.assertEqual(self.judge("finer", "states 4", "wider"), (False, True, False))

    def test_finer_and_wider(self):
        lines = self.SHEET.split("\n")
        turned = "\n".join((lines[0], lines[2], lines[1]))
        self.assertEqual(self.judge("finer", "wider", "cells 4", sheet=turned), (True, True, True))
        same = "\n".join((lines[0], lines[1], lines[1]))
        self.assertEqual(self.judge("finer", "wider", sheet=same), (True, True))
        # WIDER, but not finer.
        sheet = "states 4 1 0 1 2 1 0 1 2\ncells 2 2 0 2 2 1 3\ncells 2 2 0 1 2 2 3"
        self.assertEqual(self.judge("finer", "wider", sheet=sheet), (False, True))

    def test_common_of_both(self):
        sheet = "states 3 1 0 1 1 1 2\ncells 2 2 0 1 1 2\ncells 2 1 0 2 1 2"
        self.assertEqual(self.judge("knows 0 0 1", "common 0 0 1", "common 0 0 1 2", sheet=sheet),
                         (True, False, True))

    def test_more_than_6_forecasts(self):
        many = "states 7" + "".join(" 1 " + str(at) for at in range(7))
        for first, second, wanted in (("each", "none", (True, False, False, True)),
                                      ("none", "each", (False, False, True, True)),
                                      ("each", "each", (True, False, False, True))):
            told = self.judge("finer", "wider", "rest 9 0", "together 0 0",
                              sheet="\n".join((many, first, second)))
            self.assertEqual(told, wanted)
        self.assertEqual(self.judge("forecast 6 6", sheet=many + "\neach\nnone"), (True,))

    def test_form_of_sayings(self):
        for saying, word in (("", 0), ("x", 0), ("Finer", 0), ("finer 1", 1), ("finer ", 1),
                             ("wider x", 1), ("states", 1), ("states -1", 1), ("states 1/1", 1),
                             ("states 4 4", 2), ("cells 01", 1), ("cells", 1), ("together 0", 2),
                             ("together 0 -1", 2), ("together 0 1 2", 3), ("forecast 0", 2),
                             ("forecast 0 1/0", 2), ("forecast x 1", 1), ("forecast 0 1 1", 3),
                             ("rest 1", 2), ("rest x 1", 1), ("rest 1 -0", 2), ("rest 0 0 0", 3),
                             ("knows", 1), ("knows -1", 1), ("knows 0 x", 2), ("knows 0 1/1", 2),
                             ("knows 0 0 -0", 3), ("common", 1), ("common 0 ", 2), ("common 0  1", 2),
                             ("states " + "1" * 32, 1), ("common 0 -" + "1" * 32, 2)):
            for lines, number in (((saying,), 3), (("finer", "wider", saying), 5),
                                  ((saying, "x"), 3)):
                self.bad_text(lambda given: self.judge(*given), lines, number, word)
        self.bad_text(judge.judged, self.SHEET + "\n", 3, 0)
        self.assertEqual(self.judge("states " + "1" * 31, "knows 0 -" + "1" * 31), (False, False))

    def test_lines_that_lack(self):
        lines = self.SHEET.split("\n")
        self.bad_text(judge.judged, "", 0, 0)
        self.bad_text(judge.judged, lines[0], 1, 0)
        self.bad_text(judge.judged, lines[0] + "\n", 1, 0)
        self.bad_text(judge.judged, "\n".join(lines[:2]), 2, 0)
        self.bad_text(judge.judged, "\n".join(lines[:2]) + "\n", 2, 0)

    def test_errors_in_turn(self):
        term, bad_term = "states 2 1 0 1 2", "pooled 1 2 states 2 1 0 1 2"
        bad = "cells 1 1 0"
        deep = "core cells 1 1 0"
        for lines, path in (((bad_term, bad, bad), None), ((term, deep, bad), (1,)),
                            ((term, "each", bad), ())):
            with self.assertRaises(BadTerm if path is None else BadWords) as caught:
                judge.judged("\n".join(lines))
            self.assertEqual(caught.exception.path, path or ())
            # All lines by their form ahead of all else.
            self.bad_text(judge.judged, "\n".join(lines + ("x",)), 3, 0)
        self.bad_text(judge.judged, "\n".join((bad_term, "each")), 2, 0)

    def test_against_the_modules(self):
        maker = Maker(201)
        for _ in range(150):
            term, many = maker.term(5)
            world = world_of(term)
            words, others = maker.view_words(many), maker.view_words(many)
            view, other = view_of(world, words), view_of(world, others)
            sheet = "\n".join((texts.term_text(term), texts.words_text(world, words),
                               texts.words_text(world, others)))
            state, event = maker.below(many), maker.lot(many)
            told = forecasts(world, view)[state]
            numbers = "".join(" " + str(there) for there in event)
            small = max(len(set(forecasts(world, one))) for one in (view, other)) <= 6
            wanted = [is_finer(world, view, other), len(view) == 2, does_know(world, view, event, state),
                      state in common(world, (view, other), event),
                      small and is_wider(share_of(world, other), share_of(world, view))]
            sayings = ["finer", "cells 2", "knows " + str(state) + numbers,
                       "common " + str(state) + numbers, "wider"]
            if len(str(told[0])) < 30 and len(str(told[1])) < 30:
                sayings.append("forecast " + str(state) + " " + texts.fraction_text(told))
                wanted.append(True)
            if len(set(forecasts(world, view))) <= 6:
                rest = rest_at(share_of(world, view), (1, 2))
                if len(str(rest[0])) < 30 and len(str(rest[1])) < 30:
                    sayings.append("rest 1/2 " + texts.fraction_text(rest))
                    wanted.append(True)
            self.assertEqual(self.judge(*sayings, sheet=sheet), tuple(wanted))


class DeskTest(TextTest):

    TEXT = "states 3 1 0 1 2 2 4\n2\ncells 2 2 0 1 1 2\ncells 2 1 0 2 1 2\n2 1 1 3 2"

    def test_by_hand(self):
        led = desk.Desk(self.TEXT)
        for line, said in (
                ("reports", "2 2 2"), ("cells", "1"), ("deeds", "0"), ("paid", "0 0 0"),
                ("mean 0", "0"), ("earned 1", "0 0 0"), ("undo", "nothing"), ("next 0", "1 1 4"),
                ("tell 0", "1 1 4"), ("earned 0", "0 0 2"), ("mean 0", "1"), ("cells", "2"),
                ("next 1", "0 2 4"), ("tell 1", "0 2 4"), ("mean 1", "1/4"), ("paid", "1 0 2"),
                ("deeds", "2"), ("undo", "done"), ("undo", "done"), ("undo", "nothing"),
                ("say 0 5 5 -1/2", "done"), ("reports", "5 5 -1/2"), ("cells", "2"),
                ("say 0 5 4 0", "no"), ("say 1 5 4 0", "done"), ("cells", "3"), ("deeds", "2")):
            self.assertEqual(led.say(line), said, line)

    def test_the_house_itself(self):
        led = desk.Desk(self.TEXT)
        views = (((0, 1), (2,)), ((0,), (1, 2)))
        wanted = House(world_of_integers((1, 0), (1, 2), (2, 4)), views,
                       ((whole(1), whole(1)), (whole(3), whole(2))), whole(2))
        self.assertTrue(led.house == wanted)
        self.assertIs(led.house, led.house)
        led.house.tell(0)
        self.assertEqual(led.say("deeds"), "1")
        led.say("tell 1")
        wanted.tell(0)
        wanted.tell(1)
        self.assertTrue(led.house == wanted)

    def test_what_is_answered_with_no(self):
        led = desk.Desk(self.TEXT)
        led.say("tell 0")
        before = led.house.copy()
        for line in NO_TEXTS + (
                "", " ", "no", "Tell 0", "tell", "tell ", "tell 0 ", " tell 0", "tell  0", "tell 2",
                "tell -1", "tell -0", "tell 00", "tell 01", "tell 0 0", "tell 0\n", "tell 0\ntell 1",
                "tell x", "tell 0/1", "tell " + "9" * 31, "tell " + "9" * 32, "next", "next 2",
                "next 0 0", "earned", "earned 5", "earned 0 1", "mean", "mean 3", "mean 0 0",
                "reports 0", "reports ", "paid 0", "cells 1", "deeds 0", "undo 1", "undo ", "say",
                "say 0", "say 0 1", "say 0 1 1", "say 0 1 1 4 4", "say 0 1 2 4", "say 2 1 1 4",
                "say 0 2/4 2/4 4", "say 0 1 1 x", "say 0 1 1 4 ", "say 0 1 1 -0", "say 0 1/0 1 4",
                "say 0 1 1 " + "9" * 32, "say 1 1 1", "undo\n"):
            self.assertEqual(led.say(line), "no", line)
            self.assertTrue(led.house == before)
        self.assertEqual(led.say("say 0 2/1 2/1 4"), "done")
        self.assertEqual(led.say("reports"), "2 2 4")

    def test_one_hand_and_four(self):
        states = "states 2 1 0 1 4"
        for many in (1, 2, 3, 4):
            text = "\n".join([states, str(many)] + ["each"] * many + ["0"])
            led = desk.Desk(text)
            self.assertEqual(led.house.views, (((0,), (1,)),) * many)
            self.assertEqual(led.house.ladder, ())
            self.assertEqual(led.say("tell " + str(many - 1)), "0 4")
            self.assertEqual(led.say("tell " + str(many)), "no")
            self.bad_text(desk.Desk, "\n".join([states, str(many)] + ["each"] * (many - 1) + ["0"]),
                          many + 1, 0)
            self.bad_text(desk.Desk, "\n".join([states, str(many)] + ["each"] * (many + 1) + ["0"]),
                          many + 2, 0)
        for word in ("0", "5", "-1", "1/1", "01", "", "x", "10"):
            self.bad_text(desk.Desk, "\n".join((states, word, "each", "0")), 1, 0)
        self.bad_text(desk.Desk, "\n".join((states, "1 1", "each", "0")), 1, 1)
        self.bad_text(desk.Desk, "\n".join((states, "1 ", "each", "0")), 1, 1)

    def test_ladders_of_none_and_of_ten(self):
        head = "states 1 1 0\n1\neach\n"
        self.assertEqual(desk.Desk(head + "-1/2").house.first, (-1, 2))
        ten = "0" + "".join(" " + str(at) + " 1/2" for at in range(10))
        self.assertEqual(desk.Desk(head + ten).house.ladder,
                         tuple((whole(at), (1, 2)) for at in range(10)))
        self.bad_text(desk.Desk, head + ten + " 10 1", 3, 21)
        self.bad_text(desk.Desk, head + ten + " x", 3, 21)
        self.bad_text(desk.Desk, head + ten + " ", 3, 21)
        for end, word in (("", 0), (" ", 0), ("x", 0), ("0 1", 2), ("0 1 1 2", 4), ("0 x 1", 1),
                          ("0 1 -0", 2), ("0 1 1 ", 3), ("0  1", 1), ("1/0", 0)):
            self.bad_text(desk.Desk, head + end, 3, word)
        self.bad_text(desk.Desk, head + "0\n", 4, 0)
        self.bad_text(desk.Desk, head + "0\n0 1 1", 4, 0)
        self.bad_text(desk.Desk, head + "0 1\nx", 3, 2)

    def test_errors_in_turn(self):
        term, bad_term = "states 2 1 0 1 2", "pooled 1 2 states 2 1 0 1 2"
        bad, deep = "cells 1 1 0", "core cells 1 1 0"
        rows = [bad_term, "2", deep, bad, "2/4 1 0"]
        good = [term, "2", "each", "none", "1/2 1 1"]
        for error, number in ((BadTerm, 0), (BadWords, 2), (BadWords, 3), (BadFraction, 4)):
            with self.assertRaises(error) as caught:
                desk.Desk("\n".join(rows))
            if error == BadWords:
                self.assertEqual(caught.exception.path, (1,) if number == 2 else ())
            if error == BadFraction:
                self.assertEqual(caught.exception.given, (2, 4))
            # All lines by their form ahead of all else.
            self.bad_text(desk.Desk, "\n".join(rows + ["x"]), 5, 0)
            rows[number] = good[number]
        for end, number in (("0 1 0", 0), ("0 2/4 1", 0), ("0 1 1 1 1", 1), ("0 1 1 0 1", 1),
                            ("0 1 1 2 1 3 -1", 2), ("0 1 1 2 2/2 3 1", 1)):
            with self.assertRaises(BadLadder) as caught:
                desk.Desk("\n".join(good[:4] + [end]))
            self.assertEqual(caught.exception.number, number)

    def test_against_the_house(self):
        maker = Maker(202)
        for _ in range(60):
            world = maker.world(5)
            words = [maker.view_words(len(world)) for _ in range(maker.between(1, 4))]
            ladder, first = maker.ladder(), maker.fraction()
            last = [first] + [part for rung in ladder for part in rung]
            lines = ([texts.term_text(("states", world)), str(len(words))]
                     + [texts.words_text(world, one) for one in words]
                     + [texts.fractions_text(last)])
            led = desk.Desk("\n".join(lines))
            own = House(world, tuple(view_of(world, one) for one in words), ladder, first)
            self.assertTrue(led.house == own)
            for _ in range(6):
                hand = maker.below(len(words))
                said = any_said(maker, own, hand)
                name = " " + str(hand)
                if maker.below(2):
                    own.tell(hand)
                    self.assertEqual(led.say("tell" + name), texts.fractions_text(own.reports()))
                else:
                    own.say(hand, said)
                    self.assertEqual(led.say("say" + name + " " + texts.fractions_text(said)), "done")
                self.assertTrue(led.house == own)
                for line, told in (("next" + name, own.told_next(hand)), ("reports", own.reports()),
                                   ("earned" + name, own.earned(hand)), ("paid", own.paid_out()),
                                   ("mean" + name, (own.mean_of_hand(hand),))):
                    answer = led.say(line)
                    self.assertEqual(answer, texts.fractions_text(told))
                    self.assertEqual([worth(texts.read_words(world, "marks 1 " + word)[1][0])
                                      for word in answer.split(" ")], [worth(part) for part in told])
                self.assertEqual(led.say("cells"), str(len(own.public())))
                self.assertEqual(led.say("deeds"), str(len(own)))


if __name__ == "__main__":
    unittest.main()
