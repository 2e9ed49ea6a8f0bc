"""Points 3, 4, 6, 7, 33 and 34: the house."""

import copy
import random
import unittest

import plainhouse
import plainnets
import steplaw
from weirmark.errors import BackMark, Begun, Ended, Gap, NoKeep, NoName, NoQuestion, NoRoad, Taken, Untaken
from weirmark.house import House, house_of
from weirmark.inlets import Inlet
from weirmark.nets import Net
from weirmark.questions import read_question, show_question
from weirmark.rows import END
from weirmark.shows import read, show


def text_of(body):
    """A keep's text with this body, by the words of point 34."""
    total = 0
    for place in range(len(body)):
        total += (place + 1) * ord(body[place])
    return f"weirmark {len(body)} {total % 1000000007} {body}"


def value_of(text):
    return read(text.split(" ", 3)[3])


def small_house(way="early"):
    house = House()
    house.stream("s")
    house.road("s", "north")
    house.road("s", "south")
    house.ask("q", "a pick s 0 9\nb sofar a total", way)
    return house


class TellingTest(unittest.TestCase):
    def test_early_and_last(self):
        early = small_house()
        last = small_house("last")
        for house in (early, last):
            self.assertEqual(house.letter("north", 0, ("row", 5, "x", 7)), "done")
            self.assertEqual(house.letter("south", 0, ("row", 4, "x", 1)), "done")
            self.assertEqual(house.letter("north", 1, ("row", 5, "x", 70)), "done")
            self.assertEqual(house.letter("north", 0, ("row", 5, "x", 7)), "double")
            self.assertEqual(house.letter("north", 2, ("mark", 8)), "done")
            self.assertEqual(house.letter("south", 1, ("mark", 5)), "done")
            self.assertEqual(house.letter("south", 2, ("row", 2, "x", 1)), "late")
            self.assertEqual((house.mark_of("s"), house.lates_of("s"), house.due("south")), (5, 1, 3))
            self.assertEqual(house.loose("q"), [(("north", 0), (5, "x", 8))])
            self.assertEqual(house.boxes(), [])
            house.keep()
        self.assertEqual(early.boxes(), [(1, [
            ("q", ("north", 0), None, (5, "x", 7)), ("q", ("north", 0), (5, "x", 7), (5, "x", 8)),
            ("q", ("south", 0), None, (4, "x", 1))])])
        self.assertEqual(last.boxes(), [(1, [("q", ("south", 0), (4, "x", 1))])])

    def test_questions_are_handed_in_the_order_asked(self):
        house = House()
        house.stream("s")
        house.road("s", "s")
        for name in ("z", "a", "m"):
            house.ask(name, "q both s s", "early")
        house.letter("s", 0, ("row", 1, "x", 2))
        house.keep()
        self.assertEqual([telling[:2] for telling in house.boxes()[0][1]], [
            (name, (side, ("s", 0))) for name in ("z", "a", "m") for side in (0, 1)])

    def test_a_question_is_of_the_streams_told_ahead_of_it(self):
        house = House()
        house.stream("s")
        house.road("s", "a")
        house.ask("q", "r sofar s count", "early")
        house.stream("t")
        house.road("t", "b")
        with self.assertRaises(NoQuestion):
            house.ask("w", "r both s u", "early")
        house.ask("w", "r both s t", "last")
        for again in (house, house_of(house.keep())):
            again.letter("b", 0, ("row", 5, "x", 1))
            again.letter("b", 1, ("mark", 9))
            self.assertEqual(again.loose("q"), [])
            self.assertEqual(again.loose("w"), [])
            again.keep()
            self.assertEqual(again.boxes(), [(1, []), (2, [("w", (1, ("b", 0)), (5, "x", 1))])])

    def test_a_question_asked_ahead_of_all_streams_is_none(self):
        with self.assertRaises(NoQuestion) as caught:
            House().ask("q", "r sofar s count", "early")
        self.assertEqual(caught.exception.at, 0)

    def test_a_row_of_a_question_may_have_the_name_of_a_later_stream(self):
        house = House()
        house.stream("s")
        house.road("s", "a")
        house.ask("q", "t sofar s count", "early")
        house.stream("t")
        house.road("t", "b")
        house.letter("b", 0, ("row", 1, "x", 1))
        house.letter("a", 0, ("row", 2, "x", 1))
        house.letter("b", 1, ("mark", 7))
        self.assertEqual(house.loose("q"), [(("a", 0), (2, "x", 1))])

    def test_names_have_nothing_to_do_with_one_another(self):
        house = House()
        house.stream("s")
        house.road("s", "s")
        house.ask("s", "q sofar s count", "early")
        house.stream("q")
        house.road("q", "q")
        house.ask("q", "r both s q", "last")
        self.assertEqual((house.due("s"), house.mark_of("q"), house.loose("q")), (0, 0, []))

    def test_a_mark_that_does_not_rise_is_not_told(self):
        house = small_house("last")
        house.letter("north", 0, ("row", 0, "x", 1))
        house.letter("north", 1, ("mark", 8))
        house.letter("south", 0, ("rest",))
        house.letter("south", 1, ("wake",))
        house.keep()
        self.assertEqual(house.boxes(), [(1, [("q", ("north", 0), (0, "x", 1))])])
        self.assertEqual(house.mark_of("s"), 8)


class RefusalsTest(unittest.TestCase):
    def refused(self, house, refusal, ask, **fields):
        kept = value_of(copy.deepcopy(house).keep())
        with self.assertRaises(refusal) as caught:
            ask()
        for name, thing in fields.items():
            self.assertEqual(getattr(caught.exception, name), thing)
        self.assertEqual(value_of(copy.deepcopy(house).keep()), kept)

    def test_taken_names_and_those_not_told(self):
        house = small_house()
        house.stream("t")
        self.refused(house, Taken, lambda: house.stream("s"), name="s")
        self.refused(house, Taken, lambda: house.road("s", "north"), name="north")
        self.refused(house, Taken, lambda: house.road("t", "north"), name="north")
        self.refused(house, NoName, lambda: house.road("u", "north"), name="u")
        self.refused(house, NoName, lambda: house.road("north", "east"), name="north")
        self.refused(house, Taken, lambda: house.ask("q", "junk", "last"), name="q")
        self.refused(house, NoQuestion, lambda: house.ask("w", "a pick s 0 9\njunk", "last"), at=1)
        self.refused(house, NoQuestion, lambda: house.ask("w", "", "last"), at=0)
        for ask in (house.mark_of, house.lates_of, house.loose):
            self.refused(house, NoName, lambda: ask("north"), name="north")
        self.refused(house, NoName, lambda: house.loose("b"), name="b")
        self.refused(house, NoName, lambda: house.mark_of("q"), name="q")
        self.refused(house, NoRoad, lambda: house.due("s"), name="s")
        self.refused(house, NoRoad, lambda: house.letter("s", 0, ("rest",)), name="s")
        self.assertIsNone(house.road("t", "east"))
        self.assertIsNone(house.ask("w", "a pick t 0 9", "last"))
        self.assertIsNone(house.stream("u"))

    def test_behind_the_first_letter_that_counts(self):
        for first in (("row", 5, "x", 7), ("drop", 0), ("rest",)):
            house = small_house()
            self.refused(house, Gap, lambda: house.letter("north", 1, first), wanted=0)
            house.stream("t")
            house.letter("north", 0, first)
            for again in (house, house_of(house.keep())):
                self.refused(again, Begun, lambda: again.stream("u"))
                self.refused(again, Begun, lambda: again.stream("s"))
                self.refused(again, Begun, lambda: again.road("s", "east"))
                self.refused(again, Begun, lambda: again.road("u", "north"))
                self.refused(again, Begun, lambda: again.ask("w", "a pick s 0 9", "early"))
                self.refused(again, Begun, lambda: again.ask("q", "junk", "early"))

    def test_letters(self):
        house = small_house()
        house.letter("north", 0, ("mark", 5))
        self.refused(house, Gap, lambda: house.letter("north", 2, ("mark", 4)), wanted=1)
        self.refused(house, BackMark, lambda: house.letter("north", 1, ("mark", 4)))
        self.refused(house, NoRoad, lambda: house.letter("east", 1, ("mark", 4)), name="east")
        house.letter("north", 1, ("end",))
        self.refused(house, Ended, lambda: house.letter("north", 2, ("row", 9, "x", 1)))
        self.refused(house, Gap, lambda: house.letter("north", 3, ("row", 9, "x", 1)), wanted=2)
        self.assertEqual(house.letter("north", 1, ("row", 9, "x", 1)), "double")

    def test_boxes_that_are_not_closed(self):
        house = small_house()
        self.refused(house, Untaken, lambda: house.taken(1), wanted=0)
        self.assertIsNone(house.taken(0))
        house.keep()
        house.keep()
        self.refused(house, Untaken, lambda: house.taken(3), wanted=2)
        self.refused(house, Untaken, lambda: house.taken(10 ** 50), wanted=2)
        self.assertIsNone(house.taken(2))
        self.refused(house, Untaken, lambda: house.taken(3), wanted=2)


class BoxesTest(unittest.TestCase):
    def test_boxes_are_closed_and_let_go(self):
        house = small_house()
        house.keep()
        self.assertEqual(house.boxes(), [(1, [])])
        house.letter("north", 0, ("row", 5, "x", 7))
        self.assertEqual(house.boxes(), [(1, [])])
        house.keep()
        house.keep()
        box = (2, [("q", ("north", 0), None, (5, "x", 7))])
        self.assertEqual(house.boxes(), [(1, []), box, (3, [])])
        house.taken(0)
        self.assertEqual(house.boxes(), [(1, []), box, (3, [])])
        house.taken(1)
        house.taken(1)
        self.assertEqual(house.boxes(), [box, (3, [])])
        again = house_of(house.keep())
        self.assertEqual(again.boxes(), [box, (3, []), (4, [])])
        again.taken(4)
        self.assertEqual(again.boxes(), [])
        again.keep()
        self.assertEqual(again.boxes(), [(5, [])])
        house.taken(3)
        self.assertEqual(house.boxes(), [(4, [])])

    def test_told_boxes_are_the_askers(self):
        house = small_house()
        house.letter("north", 0, ("row", 5, "x", 7))
        house.keep()
        told = house.boxes()
        before = copy.deepcopy(told)
        steplaw.spoil(told)
        self.assertEqual(house.boxes(), before)
        steplaw.spoil(house.loose("q"))
        self.assertEqual(house.loose("q"), [(("north", 0), (5, "x", 7))])
        house.letter("north", 1, ("row", 5, "y", 7))
        held = house.boxes()
        house.keep()
        self.assertEqual(held, before)


class KeepTest(unittest.TestCase):
    def test_the_text_of_a_keep(self):
        self.assertEqual(House().keep(), text_of("(0,[],[],1,[(1,[])])"))
        self.assertEqual(House().keep(), "weirmark 20 13432 (0,[],[],1,[(1,[])])")
        house = small_house()
        house.letter("north", 0, ("row", 5, "x", 7))
        self.assertEqual(house.keep(), text_of(
            "(1,[(s,(0,[(north,1,0,awake),(south,0,0,awake)],[((north,0),5,x,7)],0))],"
            "[(q,early,[(a,pick,s,0,9),(b,sofar,a,total)],([(s,0)],[(0,[((north,0),5,x,7)]),"
            "(0,[],[((north,0),5,x,7)])]))],1,[(1,[(q,(north,0),_,(5,x,7))])])"))

    def test_what_is_kept_stands_in_the_order_told(self):
        house = House()
        for stream in ("z", "a", "m"):
            house.stream(stream)
        for road, stream in (("r", "m"), ("b", "z"), ("a", "z")):
            house.road(stream, road)
        for name in ("w", "c"):
            house.ask(name, "x both z a\ny sofar x count", "last")
        value = value_of(house.keep())
        net = Net(read_question("x both z a\ny sofar x count", ["z", "a", "m"]), ["z", "a", "m"])
        inlets = []
        for roads in (("a", "b"), (), ("r",)):
            inlet = Inlet()
            for road in roads:
                inlet.begin(road)
            inlets.append(inlet.kept())
        rows = [("x", "both", "z", "a"), ("y", "sofar", "x", "count")]
        self.assertEqual(value, (
            0, list(zip(("z", "a", "m"), inlets)), [("w", "last", rows, net.kept()), ("c", "last", rows, net.kept())],
            1, [(1, [])]))

    def test_the_sum_is_modulo(self):
        house = small_house()
        for number in range(140):
            house.letter("north", number, ("row", 10 ** 9 - number, "x", 10 ** 59 - number))
        text = house.keep()
        body = text.split(" ")[3]
        self.assertGreater(sum((place + 1) * ord(sign) for place, sign in enumerate(body)), 1000000007)
        self.assertEqual(text, text_of(body))
        self.assertEqual(value_of(house_of(text).keep())[:3], value_of(text)[:3])

    def test_a_house_that_came_up_goes_on(self):
        house = small_house("last")
        house.letter("north", 0, ("row", 5, "x", 7))
        house.letter("south", 0, ("end",))
        again = house_of(house.keep())
        self.assertEqual((again.due("north"), again.due("south"), again.mark_of("s")), (1, 1, 0))
        for one in (house, again):
            self.assertEqual(one.letter("north", 1, ("mark", 6)), "done")
        self.assertEqual(again.keep(), house.keep())
        self.assertEqual(again.boxes()[1], (2, [("q", ("north", 0), (5, "x", 7))]))

    def test_two_houses_share_nothing(self):
        house = small_house()
        text = house.keep()
        again = house_of(text)
        again.letter("north", 0, ("row", 5, "x", 7))
        again.taken(1)
        again.keep()
        self.assertEqual(value_of(text), value_of(text_of(show(value_of(text)))))
        self.assertEqual((house.due("north"), house.boxes(), house.loose("q")), (0, [(1, [])], []))
        self.assertEqual(house_of(text).boxes(), [(1, [])])


class NoKeepTest(unittest.TestCase):
    def setUp(self):
        house = small_house()
        house.letter("north", 0, ("row", 15, "x", 7))
        self.text = house.keep()

    def check_refused(self, text):
        with self.assertRaises(NoKeep, msg=text):
            house_of(text)

    def test_one_sign_another_one(self):
        for place, sign in enumerate(self.text):
            for other in "0123456789 -_(),[]abz~\n!A":
                if other != sign:
                    self.check_refused(self.text[:place] + other + self.text[place + 1:])

    def test_two_unlike_neighbours_exchanged(self):
        for place in range(len(self.text) - 1):
            one, other = self.text[place:place + 2]
            if one != other:
                self.check_refused(self.text[:place] + other + one + self.text[place + 2:])

    def test_signs_lacking_at_the_end_or_behind_it(self):
        for size in range(len(self.text)):
            self.check_refused(self.text[:size])
        for more in (" ", "\n", ")", "a", "0", " 0", "_", self.text, " " + self.text):
            self.check_refused(self.text + more)
            self.check_refused(more + self.text)

    def test_other_forms(self):
        word, size, total, body = self.text.split(" ")
        for text in (
            "", " ", "weirmark", "weirmark 0 0 ", "weirmark 0 0", f"weirmark {size} {body}", body,
            f"{word}  {size} {total} {body}", f"Weirmark {size} {total} {body}", f"wiermark {size} {total} {body}",
            f"{word} 0{size} {total} {body}", f"{word} {size} 0{total} {body}", f"{word} +{size} {total} {body}",
            f"{word} {size} -{total} {body}", f"{word} -{size} {total} {body}", f"{word} {size} {total}.0 {body}",
            f"{word} {size} {int(total) + 1000000007} {body}", f"{word} {size} {int(total) + 1} {body}",
            f"{word} {int(size) + 1} {total} {body}", f"{word} {total} {size} {body}", f"{word} _ _ {body}",
            f"{word} ({size}) {total} {body}", f"{word}\n{size} {total} {body}", f"{word} {size} {total}\n{body}",
        ):
            self.check_refused(text)

    def test_a_body_that_is_none_under_its_own_size_and_sum(self):
        body = self.text.split(" ")[3]
        for wrong in ("", "(", body[:-1], body + ")", body.replace("15", "015"), body.replace("_", "%"), body.upper(),
                      body + " ", " " + body, body.replace(",", ", "), body + "\n", "-0", "(1,)"):
            self.check_refused(text_of(wrong))
        self.assertEqual(house_of(text_of(body)).boxes(), house_of(self.text).boxes())


class WholeRunsTest(unittest.TestCase):
    """Points 6 and 7: letters of several roads woven in several ways, stops, and coming up again."""

    def some_letters(self, chance, rests):
        return {road: plainhouse.some_letters(chance, 12, rests) for road in plainhouse.ROADS}

    def test_boxes_against_the_plain_answer(self):
        for seed in range(60):
            chance = random.Random(seed)
            questions = plainhouse.some_questions(chance)
            house = plainhouse.house_with(questions)
            standings = plainhouse.Standings()
            letters = self.some_letters(chance, rests=seed % 2 == 1)
            boxes = []
            for road, number, letter in plainhouse.woven(chance, letters):
                self.assertEqual(house.letter(road, number, letter), standings.letter(road, number, letter))
                if chance.random() < 0.15:
                    house.keep()
                    boxes = self.all_boxes(house, boxes, chance)
                    plainhouse.check_tellings(self, boxes, standings, questions, False)
            for road in plainhouse.ROADS:
                house.letter(road, house.due(road), ("end",))
                standings.letter(road, standings.inlets[plainhouse.ROADS[road]].due(road), ("end",))
            for stream in plainhouse.STREAMS:
                self.assertEqual(house.mark_of(stream), END)
            house.keep()
            boxes = self.all_boxes(house, boxes, chance)
            plainhouse.check_tellings(self, boxes, standings, questions, True)
            for name, _, _ in questions:
                self.assertEqual(house.loose(name), [])

    def all_boxes(self, house, boxes, chance):
        """All boxes so far; the house lets some of them go."""
        told = dict(boxes)
        for number, tellings in house.boxes():
            self.assertEqual(told.setdefault(number, tellings), tellings)
        house.taken(chance.randrange(max(told) + 1))
        self.assertEqual(sorted(told), list(range(1, max(told) + 1)))
        return sorted(told.items())

    def test_stops_and_coming_up_from_the_last_keep(self):
        for seed in range(60):
            chance = random.Random(seed)
            questions = plainhouse.some_questions(chance)
            letters = self.some_letters(chance, rests=seed % 3 == 0)
            house = plainhouse.house_with(questions)
            text = house.keep()
            counted = [None]
            behind = []
            stops = 0
            while any(house.due(road) < len(letters[road]) for road in letters):
                if stops < 5 and chance.random() < 0.12:
                    # What counted behind the last keep is gone with the house.
                    house = house_of(text)
                    behind = []
                    stops += 1
                    continue
                road = chance.choice([road for road in letters if house.due(road) < len(letters[road])])
                number = house.due(road)
                if number and chance.random() < 0.2:
                    self.assertEqual(house.letter(road, number - 1, letters[road][number - 1]), "double")
                house.letter(road, number, letters[road][number])
                behind.append((road, number, letters[road][number]))
                if chance.random() < 0.15:
                    text = house.keep()
                    counted += behind + [None]
                    behind = []
            counted += behind + [None]
            last = house.keep()
            never = plainhouse.house_with(questions)
            for deed in counted:
                if deed is None:
                    whole = never.keep()
                else:
                    never.letter(*deed)
            self.assertEqual(house.boxes(), never.boxes())
            self.assertEqual(last, whole)
            standings = plainhouse.Standings()
            for deed in counted:
                if deed is not None:
                    standings.letter(*deed)
            plainhouse.check_tellings(self, house.boxes(), standings, questions, False)

    def test_coming_up_from_any_earlier_keep_with_the_letters_woven_otherwise(self):
        for seed in range(40):
            chance = random.Random(seed)
            questions = plainhouse.some_questions(chance)
            letters = self.some_letters(chance, rests=False)
            house = plainhouse.house_with(questions)
            texts = [house.keep()]
            for road, number, letter in plainhouse.woven(chance, letters):
                house.letter(road, number, letter)
                if chance.random() < 0.2:
                    texts.append(house.keep())
            for text in texts:
                again = house_of(text)
                left = {road: letters[road][again.due(road):] for road in letters}
                for road, _, letter in plainhouse.woven(chance, left):
                    again.letter(road, again.due(road), letter)
                for name, _, _ in questions:
                    self.assertEqual(again.loose(name), house.loose(name))
                for stream in plainhouse.STREAMS:
                    self.assertEqual(again.mark_of(stream), house.mark_of(stream))
                    self.assertEqual(again.lates_of(stream), house.lates_of(stream))
                for road in letters:
                    self.assertEqual(again.due(road), house.due(road))

    def test_streams_roads_and_questions_told_anew_behind_a_keep(self):
        for seed in range(20):
            chance = random.Random(seed)
            questions = plainhouse.some_questions(chance, many=2)
            first = House()
            first.stream("s")
            first.road("s", "a")
            text = first.keep()
            houses = [first, house_of(text), house_of(text)]
            letters = self.some_letters(chance, rests=False)
            order = plainhouse.woven(chance, letters)
            for house in houses:
                house.stream("t")
                house.road("s", "b")
                house.road("t", "c")
                for name, rows, way in questions:
                    house.ask(name, show_question(rows), way)
                for road, number, letter in order:
                    house.letter(road, number, letter)
            self.assertEqual(len({house.keep() for house in houses}), 1)

    def test_two_weavings_leave_the_same(self):
        for seed in range(60):
            chance = random.Random(seed)
            rows = plainnets.some_rows(chance, plainhouse.STREAMS, most=5)
            letters = self.some_letters(chance, rests=False)
            ends = [self.played(chance, rows, letters) for _ in range(3)]
            self.assertEqual(ends[1][:3], ends[0][:3])
            self.assertEqual(ends[2][:3], ends[0][:3])

    def test_two_weavings_with_rests_where_the_same_letters_were_late(self):
        alike = 0
        for seed in range(150):
            chance = random.Random(seed)
            rows = plainnets.some_rows(chance, plainhouse.STREAMS, most=3)
            letters = {road: plainhouse.some_letters(chance, 5, True) for road in plainhouse.ROADS}
            ends = [self.played(chance, rows, letters) for _ in range(2)]
            marks = [[kept[0] for kept in end[0]] for end in ends]
            if ends[0][3] == ends[1][3] and marks[0] == marks[1]:
                self.assertEqual(ends[1], ends[0])
                alike += 1
        self.assertGreater(alike, 10)

    def played(self, chance, rows, letters):
        """What inlets and a net keep, the rows told as sure, and each letter's word, behind one weaving."""
        net = Net(rows, plainhouse.STREAMS)
        standings = plainhouse.Standings()
        sure = {row[0]: {} for row in rows}
        words = {}
        for road, number, letter in plainhouse.woven(chance, letters):
            stream = plainhouse.ROADS[road]
            before = standings.inlets[stream].kept()[0]
            word, changes, mark = standings.inlets[stream].letter(road, number, letter)
            words[(road, number)] = word
            for tag, row in changes:
                net.put(stream, tag, row)
            if mark > before:
                for name, (_, told) in net.mark(stream, mark).items():
                    for tag, row in told:
                        self.assertNotIn(tag, sure[name])
                        sure[name][tag] = row
        return ([standings.inlets[stream].kept() for stream in plainhouse.STREAMS], net.kept(), sure, words)


if __name__ == "__main__":
    unittest.main()
