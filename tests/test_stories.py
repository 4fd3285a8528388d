"""Point [7]: stories."""

import itertools
import unittest

from tests.any_values import any_values, but, is_count, is_listing, is_number
from termstill.errors import InvalidStory, InvalidText
from termstill.stories import Story

BIG = 10**18
ROW = ((3, "talk", 2), (4, "talk", 9), (9, "plea", 1), (9, "owe", 1), (14, "owe", 1))
TEXT = "3 talk 2; 4 talk 9; 9 plea 1; 9 owe 1; 14 owe 1"


def at_of(call, *arguments):
    """The index of the InvalidStory that is raised, or None."""
    try:
        call(*arguments)
    except InvalidStory as error:
        return error.at
    return None


class Making(unittest.TestCase):
    def test_occasions(self):
        for occasions in (ROW, list(ROW), (), [], [(0, "a", 1)], ((BIG, "zzzz", BIG), (BIG, "a", 1)), list(ROW) * 0):
            story = Story(occasions)
            self.assertEqual(story.occasions, tuple(occasions))
            self.assertIs(type(story.occasions), tuple)
            self.assertEqual(len(story), len(occasions))
            self.assertEqual(Story(occasions=occasions), story)
        self.assertEqual((Story().occasions, len(Story())), ((), 0))

    def test_forty_occasions(self):
        row = [(BIG - 40 + at, "talk", BIG) for at in range(40)]
        self.assertEqual(Story(row).occasions, tuple(row))
        self.assertEqual(at_of(Story, row + row), 40)

    def test_a_list_that_is_changed_later(self):
        row = list(ROW)
        story = Story(row)
        row.append((20, "owe", 1))
        row[0] = None
        self.assertEqual(story.occasions, ROW)
        self.assertEqual(len(row), 6)

    def test_no_sequence(self):
        for value in but(is_listing) + [{}, {(0, "a", 1): 1}, Story(ROW), "3 talk 2"]:
            self.assertEqual(at_of(Story, value), 0)
            self.assertEqual(at_of(Story(ROW).further, value), 5)
            self.assertEqual(at_of(Story().further, value), 0)

    def test_things_that_are_no_occasions(self):
        wrong = but(lambda value: value == (0, "talk", 1) and isinstance(value, tuple))
        wrong += [
            [3, "talk", 2], (3, "talk"), (3, "talk", 2, 1), ("talk", 3, 2), (3, 2, "talk"), (-1, "talk", 2),
            (True, "talk", 2),
            (False, "talk", 2), (3, "talk", True), (3, "talk", 0), (3, "talk", -1), (3, "talk", None),
            (None, "talk", 2),
            (3, None, 2), (3, "any", 2), (3, "still", 2), (3, "Talk", 2), (3, "", 2), (3, "talk ", 2), ("3", "talk", 2),
            (3, "talk", "2"), ((3, "talk", 2),), "3 talk 2", (3, ["talk"], 2),
        ]
        for value in wrong:
            self.assertEqual(at_of(Story, [value]), 0)
            self.assertEqual(at_of(Story, (value, value)), 0)
            for at in range(len(ROW) + 1):
                self.assertEqual(at_of(Story, ROW[:at] + (value,) + ROW[at:]), at)
                self.assertEqual(at_of(Story, [*ROW[:at], value, None, (0, "a", 1)]), at)

    def test_any_value_at_each_place_of_an_occasion(self):
        for value in any_values():
            self.assertEqual(at_of(Story, [(value, "talk", 1)]), None if is_number(value) else 0)
            self.assertEqual(at_of(Story, [(1, value, 1)]), None if value in ("a", "talk") else 0)
            self.assertEqual(at_of(Story, [(1, "talk", value)]), None if is_count(value) else 0)

    def test_occasions_that_begin_too_early(self):
        for row, at in [
            ([(3, "a", 1), (2, "a", 1)], 1),
            ([(3, "a", 1), (3, "b", 1), (0, "a", 1)], 2),
            ([(0, "a", 1), (5, "b", 1), (4, "a", 1), (3, "a", 1)], 2),
            ([(5, "a", 1), (6, "a", 1), (5, "a", 1), None], 2),
            ([(5, "a", 1), None, (4, "a", 1)], 1),
            ([(BIG, "a", 1), (BIG - 1, "a", 1)], 1),
        ]:
            self.assertEqual(at_of(Story, row), at)
            self.assertEqual(at_of(Story, tuple(row)), at)


class Asking(unittest.TestCase):
    def setUp(self):
        self.story = Story(ROW)

    def tearDown(self):
        self.assertEqual((self.story.occasions, str(self.story), len(self.story)), (ROW, TEXT, 5))

    def test_upto(self):
        for day in [*range(20), BIG]:
            early = self.story.upto(day)
            self.assertIsInstance(early, Story)
            self.assertEqual(early.occasions, tuple(one for one in ROW if one[0] < day))
        self.assertEqual(str(self.story.upto(day=9)), "3 talk 2; 4 talk 9")
        self.assertEqual(len(self.story.upto(3)), 0)
        self.assertEqual(len(Story().upto(3)), 0)

    def test_further(self):
        more = [(14, "b", 3), (15, "a", 1)]
        longer = self.story.further(more)
        self.assertEqual(longer.occasions, ROW + tuple(more))
        self.assertEqual(more, [(14, "b", 3), (15, "a", 1)])
        more.append(None)
        self.assertEqual(len(longer), 7)
        self.assertEqual(self.story.further(occasions=((14, "b", 3),)).occasions, ROW + ((14, "b", 3),))
        self.assertEqual(self.story.further([]), self.story)
        self.assertEqual(Story().further(ROW), self.story)

    def test_further_fails_with_the_index_in_the_whole_row(self):
        for more, at in [
            ([None], 5), ([(13, "a", 1)], 5), ([(14, "a", 1), (13, "a", 1)], 6),
            (((14, "a", 1), [15, "a", 1], None), 6),
            ([(20, "a", 1), (20, "b", 1), (20, "any", 1)], 7), ((15, "a", 1), 5),
        ]:
            self.assertEqual(at_of(self.story.further, more), at)
        for value in any_values():
            if isinstance(value, tuple) and value == (0, "talk", 1):
                continue
            self.assertEqual(at_of(self.story.further, [value]), 5)
            self.assertEqual(at_of(self.story.further, [(14, "a", 1), value]), 6)
            self.assertEqual(at_of(Story().further, [value]), 0)

    def test_stories_are_not_iterable(self):
        for story in (self.story, Story()):
            for ask in (iter, list, tuple, sorted, lambda value: ROW[0] in value, lambda value: value[0]):
                with self.assertRaises(TypeError):
                    ask(story)
            with self.assertRaises(TypeError):
                story + story
            with self.assertRaises(TypeError):
                story += [(99, "a", 1)]


class Texts(unittest.TestCase):
    def test_str_and_read(self):
        for row, text in [
            ((), ""), (ROW, TEXT), ([(0, "a", 1)], "0 a 1"), ([(10, "zzzz", 105)], "10 zzzz 105"),
            ([(BIG, "a", BIG), (BIG, "a", BIG)], f"{BIG} a {BIG}; {BIG} a {BIG}"),
            ([(10**19 - 1, "a", 1)], "9" * 19 + " a 1"),
        ]:
            self.assertEqual(str(Story(row)), text)
            self.assertEqual(Story.read(text).occasions, tuple(row))
            self.assertEqual(Story.read(text=text), Story(row))
        self.assertEqual([type(part) for part in Story.read("3 talk 2").occasions[0]], [int, str, int])

    def test_a_long_text(self):
        row = [(10**18 + at, "talk", 1) for at in range(40)]
        self.assertEqual(Story.read(str(Story(row))).occasions, tuple(row))

    def assert_text_fails(self, text, at):
        with self.assertRaises(InvalidText, msg=repr(text)) as caught:
            Story.read(text)
        self.assertEqual(caught.exception.at, at, repr(text))

    def test_parts_that_are_not_of_the_form_or_no_occasion(self):
        for part in [
            "", " ", "3", "3 talk", "3 talk 2 1", "talk 3 2", "3 2 talk", " 3 talk 2", "3 talk 2 ", "3  talk 2",
            "3 talk  2",
            "3 talk 2;", "3 talk 2 ;", "03 talk 2", "00 talk 2", "3 talk 02", "3 talk 00", "3 talk 0", "-3 talk 2",
            "3 talk -2",
            "+3 talk 2", "3 talk +2", "3. talk 2", "3 talk 1_0", "any talk 2", "3 talk any", "3 any 2", "3 none 2",
            "3 anew 2",
            "3 lift 2", "3 term 2", "3 still 2", "3 Talk 2", "3 t1 2", "3 talks 2", "3 3 2", "3 \u00e4 2",
            "\u0663 talk 2",
            "3 talk 2\n", "3 talk\n2", "3\ntalk 2", "1" * 20 + " talk 2", "3 talk " + "1" * 20, "3 talk 2;4 talk 9",
            "3\ttalk\t2",
        ]:
            parts = TEXT.split("; ")
            for at in range(len(parts) + 1):
                self.assert_text_fails("; ".join(parts[:at] + [part] + parts[at:]), at)
                # Later parts, and occasions that begin too early, do not matter then.
                self.assert_text_fails("; ".join(parts[:at] + [part, "x", "0 a 1"]), at)
            self.assert_text_fails("9 a 1; 8 a 1; " + part, 2)
        for text, at in [("; ", 0), ("; " + TEXT, 0), (TEXT + "; ", 5), (TEXT + ";", 4), ("3 a 2; ; 4 a 9", 1)]:
            self.assert_text_fails(text, at)
        self.assert_text_fails("; " * 700, 0)

    def test_texts_of_the_form_that_make_no_story(self):
        for text, at in [("3 a 1; 2 a 1", 1), ("3 a 1; 3 a 1; 0 b 1; 0 c 1", 2), (TEXT + "; 13 owe 1", 5)]:
            self.assertEqual(at_of(Story.read, text), at)


class Equality(unittest.TestCase):
    def test_stories_are_equal_by_text(self):
        texts = ["", "3 a 1", "3 a 2", "4 a 1", "3 b 1", "3 a 1; 3 b 1", "3 b 1; 3 a 1", "3 a 1; 3 a 1"]
        for one, two in itertools.product(texts, texts):
            self.assertIs(Story.read(one) == Story.read(two), one == two)
            self.assertIs(Story.read(one) != Story.read(two), one != two)
        self.assertTrue(Story(list(ROW)) == Story(ROW))

    def test_stories_are_equal_to_nothing_else(self):
        for story in (Story(), Story(ROW)):
            for value in but(lambda value: isinstance(value, Story)) + [TEXT, ROW, list(ROW), [story], 1.5, object()]:
                self.assertIs(story == value, False)
                self.assertIs(value == story, False)
                self.assertIs(story != value, True)
                self.assertIs(value != story, True)
