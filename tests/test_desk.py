"""Point 35: the desk."""

import random
import unittest

import plainhouse
from test_letters import WRONG_NUMBERS
from weirmark.desk import Desk
from weirmark.errors import (
    BackMark, Begun, Ended, Gap, NoKeep, NoLine, NoName, NoQuestion, NoRoad, Taken, Untaken, WeirError,
)
from weirmark.letters import show_letter
from weirmark.questions import show_question
from weirmark.shows import show

BEGINNING = ("stream s", "road s north", "ask q early a pick s 0 9; b sofar a total")
LINES = (
    "stream t", "road s south", "ask w last a pick s 0 9", "letter north 0 row 5 x 7", "letter north 1 rest", "due north",
    "mark s", "lates s", "loose q", "boxes", "keep", "taken 1",
)


def desk_with(*lines):
    desk = Desk()
    for line in lines:
        desk.say(line)
    return desk


class DeskTest(unittest.TestCase):
    def refused(self, desk, line, refusal, **fields):
        before = self.state(desk)
        with self.assertRaises(refusal, msg=repr(line)) as caught:
            desk.say(line)
        for name, thing in fields.items():
            self.assertEqual(getattr(caught.exception, name), thing)
        self.assertEqual(self.state(desk), before)

    def state(self, desk):
        """What can be asked without changing anything."""
        told = []
        for line in ("boxes", "due north", "due south", "mark s", "mark t", "lates s", "loose q", "loose w"):
            try:
                told.append(desk.say(line))
            except WeirError as refusal:
                told.append(type(refusal))
        return told

    def test_each_kind_of_line(self):
        desk = Desk()
        for line, told in (
            ("stream s", "ok"), ("road s north", "ok"), ("road s south", "ok"),
            ("ask q early a pick s 0 9; b sofar a total", "ok"), ("ask w last a pick s 0 9", "ok"), ("due north", "0"),
            ("letter north 0 row 5 x 7", "done"), ("letter north 0 row 5 x 7", "double"),
            ("letter north 1 amend 0 5 x 8", "done"), ("letter north 2 mark 6", "done"), ("mark s", "0"),
            ("letter south 0 rest", "done"), ("mark s", "6"), ("letter south 1 row 5 x 7", "late"), ("lates s", "1"),
            ("letter south 2 row 6 x 1", "done"), ("due south", "3"), ("loose q", "[((south,2),(6,x,9))]"),
            ("loose w", "[((south,2),(6,x,1))]"), ("boxes", "[]"),
        ):
            self.assertEqual(desk.say(line), told, line)
        text = desk.say("keep")
        self.assertTrue(text.startswith("weirmark "))
        box = (
            "(1,[(q,(north,0),_,(5,x,7)),(q,(north,0),(5,x,7),(5,x,8)),(w,(north,0),(5,x,8)),(q,(south,2),_,(6,x,9))])")
        self.assertEqual(desk.say("boxes"), f"[{box}]")
        desk.say("letter north 3 row 9 y 1")
        desk.say("keep")
        self.assertEqual(desk.say("boxes"), f"[{box},(2,[(q,(north,3),_,(9,y,1))])]")
        self.assertEqual(desk.say("taken 1"), "ok")
        self.assertEqual(desk.say("boxes"), "[(2,[(q,(north,3),_,(9,y,1))])]")
        self.assertEqual(desk.say("up " + text), "ok")
        self.assertEqual(desk.say("boxes"), f"[{box}]")
        self.assertEqual(desk.say("due north"), "3")
        self.assertEqual(desk.say("taken 0"), "ok")

    def test_a_word_less_one_more_and_blanks(self):
        for line in LINES:
            desk = desk_with(*BEGINNING)
            words = line.split(" ")
            for wrong in (line + " ", " " + line, line.upper(), "\n" + line, line + "\n", line + "\t"):
                if line.startswith("ask") and not wrong.startswith((" ", "ASK", "\n")) and "\n" not in wrong:
                    continue
                self.refused(desk, wrong, NoLine)
            for place in range(1, len(words)):
                if line.startswith("ask") and place > 3:
                    continue
                doubled = " ".join(words[:place] + [""] + words[place:])
                if not (line.startswith("ask") and place == 3):
                    self.refused(desk, doubled, NoLine)
            short = words[:3] if line.startswith("ask") else words[:-1]
            self.refused(desk, " ".join(short), NoLine)
            if not line.startswith("ask"):
                self.refused(desk, line + " x", NoLine)
                self.refused(desk, line + " 1", NoLine)

    def test_texts_that_are_no_lines(self):
        desk = desk_with(*BEGINNING)
        for line in (
            "", " ", "\n", "streams", "Stream t", "stream", "stream ", "stream T", "stream t1", "stream abcdefghi",
            "stream t u", "road s", "road s Q", "road S q", "road s q r", "ask", "ask w", "ask w early", "ask w late x",
            "ask w Early x", "ask W early x", "ask w  early x", "taken", "taken ", "taken -1", "taken x", "taken 01",
            "taken " + "1" * 61, "letter", "letter north", "letter north 0", "letter north 0 ", "letter north 0 row",
            "letter north x rest", "letter north -1 rest", "letter north 00 rest", "letter North 0 rest",
            "letter north 0 rest ", "letter north 0  rest", "letter north 0 row 5 x", "letter north 0 row 5 x 7 8",
            "letter north " + "1" * 61 + " rest", "due", "due ", "due 1", "due a b", "mark", "mark s 5", "lates", "loose",
            "loose q q", "boxes ", "boxes 1", "keep ", "keep 1", "up", "upp x", "help", "ask w early a pick s 0 9\n",
            "ask w early a pick s 0 9\nb pick a 0 9", "up \n", "up weirmark\n",
        ):
            self.refused(desk, line, NoLine)
        for number in WRONG_NUMBERS:
            self.refused(desk, f"taken {number}", NoLine)
            self.refused(desk, f"letter north {number} rest", NoLine)

    def test_numbers_of_sixty_figures(self):
        desk = desk_with(*BEGINNING)
        most = "9" * 60
        self.refused(desk, f"taken {most}", Untaken, wanted=0)
        self.refused(desk, f"letter north {most} rest", Gap, wanted=0)
        self.refused(desk, f"taken {10 ** 60}", NoLine)
        self.refused(desk, f"letter north {10 ** 60} rest", NoLine)

    def test_no_line_is_told_ahead_of_what_the_house_refuses(self):
        desk = desk_with(*BEGINNING)
        for line in ("letter east 0 junk", "letter north 5 rests", "road u 1", "due 1", "ask q soon x", "taken 7x"):
            self.refused(desk, line, NoLine)
        desk.say("letter north 0 end")
        self.refused(desk, "stream 1", NoLine)
        self.refused(desk, "letter north 1 row 5 x", NoLine)

    def test_what_the_house_refuses(self):
        desk = desk_with(*BEGINNING)
        self.refused(desk, "stream s", Taken, name="s")
        self.refused(desk, "road t east", NoName, name="t")
        self.refused(desk, "road s north", Taken, name="north")
        self.refused(desk, "ask q early junk", Taken, name="q")
        self.refused(desk, "ask w early a pick s 0 9; junk", NoQuestion, at=1)
        self.refused(desk, "ask w early a pick s 0 9;b pick a 0 9", NoQuestion, at=0)
        self.refused(desk, "ask w early a pick s 0 9; ", NoQuestion, at=1)
        self.refused(desk, "ask w early a pick s 0 9 ; b pick a 0 9", NoQuestion, at=0)
        self.refused(desk, "ask w early  a pick s 0 9", NoQuestion, at=0)
        self.refused(desk, "ask w early ", NoQuestion, at=0)
        self.refused(desk, "ask w last \t", NoQuestion, at=0)
        self.refused(desk, "due s", NoRoad, name="s")
        self.refused(desk, "mark north", NoName, name="north")
        self.refused(desk, "lates north", NoName, name="north")
        self.refused(desk, "loose b", NoName, name="b")
        self.refused(desk, "letter east 0 rest", NoRoad, name="east")
        self.refused(desk, "letter north 1 rest", Gap, wanted=0)
        self.refused(desk, "taken 1", Untaken, wanted=0)
        desk.say("letter north 0 mark 5")
        self.refused(desk, "letter north 1 mark 4", BackMark)
        self.refused(desk, "stream t", Begun)
        self.refused(desk, "road t east", Begun)
        self.refused(desk, "ask q early junk", Begun)
        desk.say("letter north 1 end")
        self.refused(desk, "letter north 2 rest", Ended)

    def test_up(self):
        desk = desk_with(*BEGINNING)
        text = desk.say("keep")
        desk.say("letter north 0 row 5 x 7")
        for wrong in ("", " ", text[:-1], text + " ", " " + text, text + ")", "weirmark", "junk; junk"):
            self.refused(desk, "up " + wrong, NoKeep)
        self.refused(desk, "up " + text + "\n", NoLine)
        self.assertEqual(desk.say("up " + text), "ok")
        self.assertEqual(desk.say("due north"), "0")
        self.assertEqual(desk.say("stream t"), "ok")
        other = Desk()
        self.assertEqual(other.say("up " + text), "ok")
        self.assertEqual(other.say("letter north 0 row 5 x 7"), "done")
        self.assertEqual(desk.say("due north"), "0")

    def test_names_that_are_words_of_lines(self):
        desk = desk_with("stream keep", "road keep letter", "road keep keep", "ask up last boxes pick keep 0 9")
        self.assertEqual(desk.say("letter letter 0 row 5 keep 7"), "done")
        self.assertEqual(desk.say("letter keep 0 end"), "done")
        for line, told in (("due keep", "1"), ("due letter", "1"), ("mark keep", "0"), ("lates keep", "0")):
            self.assertEqual(desk.say(line), told)
        self.assertEqual(desk.say("loose up"), "[((letter,0),(5,keep,7))]")
        self.assertEqual(desk.say("boxes"), "[]")

    def test_two_desks_share_nothing(self):
        one = desk_with(*BEGINNING)
        other = Desk()
        self.refused(other, "due north", NoRoad, name="north")
        self.assertEqual(one.say("due north"), "0")

    def test_a_desk_answers_as_its_house(self):
        for seed in range(15):
            chance = random.Random(seed)
            questions = plainhouse.some_questions(chance)
            house = plainhouse.house_with(questions)
            desk = Desk()
            for stream in plainhouse.STREAMS:
                desk.say(f"stream {stream}")
            for road, stream in plainhouse.ROADS.items():
                desk.say(f"road {stream} {road}")
            for name, rows, way in questions:
                text = show_question(rows).replace("\n", "; ")
                self.assertEqual(desk.say(f"ask {name} {way} {text}"), "ok")
            letters = {road: plainhouse.some_letters(chance, 8, True) for road in plainhouse.ROADS}
            for road, number, letter in plainhouse.woven(chance, letters):
                told = desk.say(f"letter {road} {number} {show_letter(letter)}")
                self.assertEqual(told, house.letter(road, number, letter))
                if chance.random() < 0.2:
                    text = house.keep()
                    self.assertEqual(desk.say("keep"), text)
                    self.assertEqual(desk.say(f"up {text}"), "ok")
                    self.assertEqual(desk.say("boxes"), show(house.boxes()))
                for name, _, _ in questions:
                    self.assertEqual(desk.say(f"loose {name}"), show(house.loose(name)))
            for stream in plainhouse.STREAMS:
                self.assertEqual(desk.say(f"mark {stream}"), str(house.mark_of(stream)))
                self.assertEqual(desk.say(f"lates {stream}"), str(house.lates_of(stream)))


if __name__ == "__main__":
    unittest.main()
