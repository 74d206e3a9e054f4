import random
import unittest

from helper import (
    LARGE, NO_NAMES, SpanTest, lies_in, made_deed, many_pieces, plain_came, plain_map, plain_went, told_at,
)
from spanmap import lines
from spanmap.deeds import Mirror, Move, Narrow, Put, Stretch, Widen
from spanmap.errors import NoDeed, NoMark, NoName
from spanmap.lines import Line

BEGUN = [(None, -4, 2), (0, 3, 1), (3, 5, 2)]


def state_of(line):
    return (line.told(), [(name, line.where(name)) for name in line.marks()])


class LineTest(SpanTest):

    def check_state(self, line, pieces, marks):
        self.check_same(line.told(), pieces)
        self.check_same(line.marks(), sorted(marks))
        for name, place in marks.items():
            self.check_same(line.where(name), place)

    def check_history(self, line, states):
        """All that can be taken back leads through these states, the last one first."""
        for state in reversed(states):
            line.back()
            self.assertEqual(state_of(line), state)
        self.check_refused(NoDeed, line.back)


class TestBegun(LineTest):

    def test_it_belongs_to_the_lines_module(self):
        self.check_belongs(lines, ["Line"])

    def test_begun_with_nothing(self):
        for line in (Line(), Line(None), Line([]), Line(pieces=[])):
            self.check_state(line, [], {})
            self.check_refused(NoDeed, line.back)
            self.check_refused(NoDeed, line.again)

    def test_begun_with_a_map(self):
        for pieces in (BEGUN, [(None, None, 0)], many_pieces(300), [(-LARGE, LARGE, LARGE)]):
            for line in (Line(pieces), Line(pieces=pieces)):
                self.check_state(line, pieces, {})
                self.check_refused(NoDeed, line.back)
                self.check_refused(NoDeed, line.again)

    def test_each_line_keeps_its_own(self):
        one, other = Line(), Line()
        one.do(Put((0, 3), 1))
        one.mark("a", 5)
        self.check_state(other, [], {})
        self.check_refused(NoDeed, other.back)
        self.check_state(Line(), [], {})

    def test_the_list_handed_in_is_not_held_on_to(self):
        given = list(BEGUN)
        line = Line(given)
        given.append((20, 30, 4))
        self.check_same(line.told(), BEGUN)
        given.clear()
        line.do(Move(1))
        line.back()
        self.check_same(line.told(), BEGUN)
        self.assertEqual(given, [])

    def test_the_list_handed_in_is_not_changed(self):
        given = list(BEGUN)
        line = Line(given)
        line.do(Put((0, 9), 7))
        line.do(Mirror())
        line.mark("a", 1)
        line.back()
        self.assertEqual(given, BEGUN)

    def test_told_lists_are_for_the_asker(self):
        line = Line(BEGUN)
        line.mark("a", 1)
        line.do(Move(1))
        line.back()
        for turn in range(2):
            told, names = line.told(), line.marks()
            told.append((20, 30, 4))
            told.reverse()
            names.append("b")
            self.check_state(line, BEGUN, {"a": 1})
            line.again()
            line.told().clear()
            line.marks().clear()
            line.back()
        kept = line.told()
        line.do(Put((None, None), 3))
        self.assertEqual(kept, BEGUN)
        names = line.marks()
        line.mark("b", 2)
        self.assertEqual(names, ["a"])

    def test_a_deed_handed_in_is_not_held_on_to(self):
        line = Line()
        deed = Put((0, 3), 1)
        line.do(deed)
        deed.fill = 2
        self.check_same(line.told(), [(0, 3, 1)])
        line.back()
        line.again()
        self.check_same(line.told(), [(0, 3, 1)])


class TestDeedsDone(LineTest):

    def test_they_tell_nothing(self):
        line = Line()
        self.assertIsNone(line.do(Put((0, 3), 1)))
        self.assertIsNone(line.mark("a", 1))
        self.assertIsNone(line.back())
        self.assertIsNone(line.again())

    def test_in_turn(self):
        line = Line()
        line.do(Put((0, 6), 1))
        self.check_same(line.told(), [(0, 6, 1)])
        line.do(Widen(3, 2))
        self.check_same(line.told(), [(0, 3, 1), (5, 8, 1)])
        line.do(Put((3, 5), 2))
        self.check_same(line.told(), [(0, 3, 1), (3, 5, 2), (5, 8, 1)])
        line.do(Narrow(2, 4))
        self.check_same(line.told(), [(0, 4, 1)])
        line.do(Move(-1))
        self.check_same(line.told(), [(-1, 3, 1)])
        line.do(Stretch(2, 1))
        self.check_same(line.told(), [(-2, 6, 1)])
        line.do(Mirror())
        self.check_same(line.told(), [(-5, 3, 1)])

    def test_one_deed_done_twice_and_to_two_lines(self):
        deed = Move(3)
        one, other = Line([(0, 1, 1)]), Line([(5, 6, 2)])
        one.do(deed)
        one.do(deed)
        other.do(deed)
        self.assertEqual((one.told(), other.told()), ([(6, 7, 1)], [(8, 9, 2)]))

    def test_five_hundred_figures(self):
        half = LARGE // 3
        line = Line([(-half, half, LARGE)])
        line.mark("a", half - 1)
        line.do(Move(half))
        self.check_state(line, [(0, 2 * half, LARGE)], {"a": 2 * half - 1})
        line.do(Narrow(1, 2 * half - 2))
        self.check_state(line, [(0, 2, LARGE)], {"a": 1})
        line.do(Put((-LARGE, LARGE), -LARGE))
        self.check_state(line, [(-LARGE, LARGE, -LARGE)], {"a": 1})


class TestMarks(LineTest):

    def test_put_and_put_anew(self):
        line = Line(BEGUN)
        line.mark("a", 3)
        self.check_state(line, BEGUN, {"a": 3})
        line.mark("b", -LARGE)
        self.check_state(line, BEGUN, {"a": 3, "b": -LARGE})
        line.mark("a", 0)
        self.check_state(line, BEGUN, {"a": 0, "b": -LARGE})

    def test_the_names_rise(self):
        line = Line()
        for name in ("b", "abc", "z", "ab", "a", "abcdefgh", "ba", "aa"):
            line.mark(name, 1)
        self.check_same(line.marks(), ["a", "aa", "ab", "abc", "abcdefgh", "b", "ba", "z"])

    def test_moved_by_each_deed(self):
        for deed, places in (
            (Put((0, 3), 7), [-1, 0, 1, 2, 3, 4]),
            (Put((None, None), None), [-1, 0, 1, 2, 3, 4]),
            (Widen(1, 5), [-1, 0, 6, 7, 8, 9]),
            (Widen(1, 0), [-1, 0, 1, 2, 3, 4]),
            (Narrow(1, 2), [-1, 0, None, None, 1, 2]),
            (Narrow(1, 0), [-1, 0, 1, 2, 3, 4]),
            (Move(7), [6, 7, 8, 9, 10, 11]),
            (Move(-7), [-8, -7, -6, -5, -4, -3]),
            (Stretch(3, 1), [-3, 0, 3, 6, 9, 12]),
            (Stretch(1, 3), [None, 0, None, None, 1, None]),
            (Stretch(3, 2), [-1, 0, 2, 3, 5, 6]),
            (Stretch(2, 3), [None, 0, 1, None, 2, 3]),
            (Mirror(), [1, 0, -1, -2, -3, -4]),
        ):
            line = Line()
            for at, name in enumerate("abcdef"):
                line.mark(name, at - 1)
            line.do(deed)
            self.check_same([line.where(name) for name in "abcdef"], places)
            self.check_same(line.marks(), list("abcdef"))

    def test_a_lost_mark_stays_lost_by_all_deeds(self):
        for losing in (Narrow(4, 3), Stretch(1, 3)):
            line = Line([(0, 9, 1)])
            line.mark("lost", 5)
            line.mark("kept", 0)
            line.do(losing)
            self.assertIsNone(line.where("lost"))
            for deed in (Widen(4, 3), Move(2), Mirror(), Stretch(3, 1), Stretch(1, 2), Narrow(0, 1), Put((0, 9), 2)):
                line.do(deed)
                self.assertIsNone(line.where("lost"))
                self.check_same(line.marks(), ["kept", "lost"])
            line.mark("lost", 8)
            self.check_same(line.where("lost"), 8)
            line.do(Move(2))
            self.check_same(line.where("lost"), 10)

    def test_what_is_no_name(self):
        line = Line(BEGUN)
        line.mark("a", 1)
        line.do(Move(2))
        line.back()
        for wrong in NO_NAMES:
            self.check_refused(NoName, line.mark, wrong, 3)
            self.check_state(line, BEGUN, {"a": 1})
        line.again()
        self.check_state(line, Move(2).done(BEGUN), {"a": 3})

    def test_where_no_mark_is_put(self):
        line = Line(BEGUN)
        self.check_refused(NoMark, line.where, "a")
        line.mark("ab", 1)
        for text in ("a", "b", "abc", "", "AB", "ab ", "not a name"):
            self.check_refused(NoMark, line.where, text)
        for thing in NO_NAMES:
            self.check_refused(NoMark, line.where, thing)
        line.back()
        self.check_refused(NoMark, line.where, "ab")
        self.check_same(line.marks(), [])
        line.again()
        self.check_same(line.where("ab"), 1)

    def test_a_line_does_not_mix_its_marks_with_another(self):
        one, other = Line(), Line()
        one.mark("a", 1)
        self.check_refused(NoMark, other.where, "a")


class TestBackAndAgain(LineTest):

    def test_over_deeds_and_marks_in_turn(self):
        line = Line(BEGUN)
        steps = [
            lambda: line.mark("a", 1), lambda: line.do(Put((0, 2), 5)), lambda: line.mark("b", 4),
            lambda: line.do(Narrow(0, 2)), lambda: line.mark("a", 7), lambda: line.mark("b", 9),
            lambda: line.do(Stretch(1, 2)), lambda: line.do(Mirror()), lambda: line.do(Move(0)),
        ]
        states = [state_of(line)]
        for step in steps:
            step()
            states.append(state_of(line))
        for turn in range(2):
            for state in reversed(states[:-1]):
                line.back()
                self.assertEqual(state_of(line), state)
            self.check_refused(NoDeed, line.back)
            self.assertEqual(state_of(line), states[0])
            for state in states[1:]:
                line.again()
                self.assertEqual(state_of(line), state)
            self.check_refused(NoDeed, line.again)
            self.assertEqual(state_of(line), states[-1])

    def test_a_lost_mark_stands_again(self):
        line = Line()
        line.mark("a", 5)
        line.do(Narrow(0, 9))
        self.assertIsNone(line.where("a"))
        line.do(Move(1))
        line.back()
        self.assertIsNone(line.where("a"))
        line.back()
        self.check_same(line.where("a"), 5)
        line.again()
        self.assertIsNone(line.where("a"))

    def test_a_mark_put_anew_and_taken_back(self):
        line = Line()
        line.mark("a", 5)
        line.mark("a", 6)
        line.back()
        self.check_same(line.where("a"), 5)
        line.again()
        self.check_same(line.where("a"), 6)
        line.back()
        line.back()
        self.check_refused(NoMark, line.where, "a")

    def test_nothing_again_once_a_deed_is_done_or_a_mark_put(self):
        for step in (lambda line: line.do(Move(1)), lambda line: line.mark("b", 2), lambda line: line.do(Move(0)),
                     lambda line: line.mark("a", 3)):
            line = Line(BEGUN)
            line.mark("a", 3)
            line.do(Put((0, 9), 6))
            line.do(Mirror())
            line.back()
            line.back()
            ahead = state_of(line)
            step(line)
            behind = state_of(line)
            self.check_refused(NoDeed, line.again)
            self.assertEqual(state_of(line), behind)
            line.back()
            self.assertEqual(state_of(line), ahead)
            line.again()
            self.assertEqual(state_of(line), behind)
            self.check_refused(NoDeed, line.again)

    def test_a_deed_that_changes_nothing_is_taken_back_as_one(self):
        line = Line(BEGUN)
        line.do(Move(0))
        line.do(Widen(0, 0))
        line.back()
        line.back()
        self.check_refused(NoDeed, line.back)
        line.again()
        line.again()
        self.check_refused(NoDeed, line.again)

    def test_every_refusal_leaves_the_line_as_it_was(self):
        line = Line(BEGUN)
        line.mark("a", 1)
        line.do(Move(3))
        line.do(Mirror())
        line.back()
        states = [(BEGUN, []), (BEGUN, [("a", 1)]), (Move(3).done(BEGUN), [("a", 4)])]

        def refuse_all():
            here = state_of(line)
            for wrong in NO_NAMES:
                self.check_refused(NoName, line.mark, wrong, 3)
            self.check_refused(NoMark, line.where, "b")
            self.check_refused(NoMark, line.where, "")
            self.assertEqual(state_of(line), here)

        refuse_all()
        line.again()
        self.check_refused(NoDeed, line.again)
        refuse_all()
        line.back()
        for state in reversed(states):
            self.assertEqual(state_of(line), state)
            refuse_all()
            if state != states[0]:
                line.back()
        self.check_refused(NoDeed, line.back)
        refuse_all()
        for state in states[1:]:
            line.again()
            self.assertEqual(state_of(line), state)
        line.again()
        self.check_same(line.where("a"), -4)
        self.check_refused(NoDeed, line.again)

    def test_three_hundred_deeds_and_marks(self):
        line = Line()
        states = []
        for k in range(300):
            states.append(state_of(line))
            if k % 3 == 2:
                line.mark("abcdefgh"[k % 8], k)
            else:
                line.do(Put((2 * k, 2 * k + 1), k))
        last = state_of(line)
        self.check_history(line, states)
        for turn in range(300):
            line.again()
        self.check_refused(NoDeed, line.again)
        self.assertEqual(state_of(line), last)


class PlainLine:
    """A line as the document tells it: its map is found by going back through the deeds, place by place."""

    def __init__(self, pieces):
        self.begun = pieces
        self.steps = []
        self.taken_back = []

    def step(self, step):
        self.steps.append(step)
        self.taken_back = []

    def back(self):
        self.taken_back.append(self.steps.pop())

    def again(self):
        self.steps.append(self.taken_back.pop())

    def told(self, place):
        for step in reversed(self.steps):
            if step[0] == "mark":
                continue
            came = plain_came(step, place)
            if came is None:
                return step[2] if step[0] == "put" else None
            place = came
        return told_at(self.begun, place)

    def marks(self):
        marks = {}
        for step in self.steps:
            if step[0] == "mark":
                marks[step[1]] = step[2]
            else:
                marks = {name: None if at is None else plain_went(step, at) for name, at in marks.items()}
        return marks


class TestTheWhole(LineTest):

    def any_deed(self, source):
        low = source.randint(-6, 6)
        span = source.choice([(low, low + source.randint(1, 5)), (None, low), (low, None)])
        return source.choice([
            ("put", span, source.choice([None, 1, 2, 3])), ("put", (low, low + 2), 1),
            ("widen", low, source.randint(0, 3)), ("narrow", low, source.randint(0, 3)),
            ("move", source.randint(-4, 4)), ("mirror",),
            ("stretch", *source.choice([(2, 1), (1, 2), (3, 2), (2, 3), (1, 3), (1, 1)])),
        ])

    def any_step(self, source, line, plain):
        sort = source.choice(["deed", "deed", "deed", "mark", "back", "again"])
        if sort == "deed":
            deed = self.any_deed(source)
            plain.step(deed)
            line.do(made_deed(deed))
        elif sort == "mark":
            name, place = source.choice(["a", "b", "c"]), source.randint(-6, 6)
            plain.step(("mark", name, place))
            line.mark(name, place)
        elif sort == "back" and plain.steps:
            plain.back()
            line.back()
        elif sort == "again" and plain.taken_back:
            plain.again()
            line.again()

    def test_going_back_from_each_place(self):
        for number in range(120):
            source = random.Random(number)
            begun = source.choice([[], BEGUN, [(None, None, 1)], [(-3, 0, 1), (0, 2, 2), (4, None, 3)]])
            line, plain = Line(begun), PlainLine(begun)
            for turn in range(12):
                self.any_step(source, line, plain)
                for place in range(-30, 31):
                    self.assertEqual(told_at(line.told(), place), plain.told(place))
                self.check_state(line, line.told(), plain.marks())
            self.check_ends(line, plain)

    def check_ends(self, line, plain):
        if not plain.steps:
            self.check_refused(NoDeed, line.back)
        if not plain.taken_back:
            self.check_refused(NoDeed, line.again)

    def test_two_lines_that_tell_the_same_have_one_list(self):
        one, other = Line(), Line()
        one.do(Put((0, 9), 1))
        for k in (4, 0, 8, 2, 6, 1, 3, 5, 7):
            other.do(Put((k, k + 1), 1))
        self.check_same(one.told(), other.told())
        one.do(Put((3, 5), 2))
        one.do(Narrow(3, 2))
        other.do(Narrow(0, 2))
        self.check_same(one.told(), other.told())

    def test_a_mark_keeps_what_the_map_tells_there(self):
        for number in range(60):
            source = random.Random(number)
            line = Line(BEGUN)
            for place in range(-6, 7):
                line.mark("abcdefghijklm"[place + 6], place)
            for turn in range(6):
                deed = self.any_deed(source)
                ahead = {name: line.where(name) for name in line.marks()}
                told = line.told()
                line.do(made_deed(deed))
                for name, place in ahead.items():
                    if line.where(name) is None or (deed[0] == "put" and lies_in(deed[1], place)):
                        continue
                    self.assertEqual(told_at(line.told(), line.where(name)), told_at(told, place))

    def test_the_map_stays_in_the_one_form(self):
        for number in range(60):
            source = random.Random(number)
            line = Line(BEGUN)
            for turn in range(5):
                line.do(made_deed(self.any_deed(source)))
                told = line.told()
                ends = [end for low, behind, value in told for end in (low, behind) if end is not None]
                plain = plain_map(lambda place: told_at(told, place), min(ends, default=0) - 1, max(ends, default=0))
                self.check_same(told, plain)


if __name__ == "__main__":
    unittest.main()
