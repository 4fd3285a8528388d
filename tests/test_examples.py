"""The examples of the document, as they stand."""

import doctest
import unittest

OVERVIEW = """
>>> from termstill.bounds import keepers, latest, latest_by
>>> from termstill.lapses import lapse
>>> from termstill.orders import greatest_order, in_order, least_order
>>> from termstill.rules import Rule
>>> from termstill.stories import Story
>>> rule = Rule.read("term 10 rests 5 6 cap none\\nstill talk 3 1\\nanew owe 5 1\\nlift plea 2 4 1")
>>> lapse(rule, Story()), lapse(rule, Story([(9, "talk", 3), (14, "owe", 1)])), latest(rule), latest_by(rule, 1)
(9, 18, 21, 14)
>>> in_order(rule, ["talk", "owe", "plea"]), in_order(rule, ["owe", "talk", "plea"]), keepers(rule, 18)
(21, 18, (('owe', 'talk'),))
"""
LAPSES = """
>>> from termstill.lapses import counted, standing
>>> story = Story.read("3 talk 2; 4 talk 9; 9 plea 1; 14 owe 1")
>>> (lapse(rule, story), counted(rule, story), standing(rule, story, 4), standing(rule, story, 14),
...  standing(rule, Story(), 10))
(18, (0, 2, 3), (7, 1), (0, 0), None)
"""
ORDERS = """
>>> from termstill.orders import told_story
>>> (str(told_story(rule, ["owe", "talk", "plea"])), in_order(rule, greatest_order(rule, ["plea", "talk", "owe"])),
...  in_order(rule, least_order(rule, ["plea", "talk", "owe"])))
('9 owe 1; 14 talk 3; 17 plea 1', 21, 18)
"""
BOUNDS = """
>>> from termstill.bounds import fewest, latest_story, needless
>>> from termstill.kinds import Anew
>>> fewest(rule, 14), fewest(rule, 19), fewest(rule, 22), keepers(rule, 14), keepers(rule, 9), needless(rule)
(1, 3, None, (('owe',), ('talk',)), ((),), ())
>>> (lapse(rule, latest_story(rule)), latest(rule + Anew("debt", 2)),
...  needless(Rule.read(str(rule).replace("cap none", "cap 15"))))
(21, None, ('owe', 'plea', 'talk'))
"""
PAPERS = """
>>> from termstill.papers import paper, paper_holds
>>> paper_holds(rule, 21, paper(rule, 21)), paper(rule, 20), paper_holds(rule, 30, ()), len(paper(rule, 40))
(True, None, False, 8)
"""
COMPARING = """
>>> from termstill.comparing import alike, never_sooner, parting, sooner
>>> p = Rule.read("term 3 rests none cap none\\nanew owe 2 any")
>>> q = Rule.read("term 3 rests none cap none\\nanew owe 3 1")
>>> story = parting(p, q)
>>> (never_sooner(p, q), lapse(p, sooner(p, q)), min(lapse(p, story), lapse(q, story)),
...  alike(p, Rule.read(str(p).replace("none cap", "6 cap"))))
(False, 2, 2, False)
"""
UNSURE = """
>>> from termstill.unsure import Unsure, deciding, fillings, lapses, settling, surely
>>> some = Unsure([(7, 10, "talk", 3), (12, 15, "owe", 1)])
>>> (len(fillings(some)), lapses(rule, some), surely(rule, some, 9), surely(rule, some, 16), deciding(rule, some),
...  settling(rule, some, 1, 15))
(16, (9, 14, 16, 17, 18), True, None, (0, 1), ())
"""
DESK = """
>>> from termstill.desk import Desk
>>> desk = Desk()
>>> (desk.say("rule " + str(rule).replace("\\n", " ; ")), desk.say("wait 9"), desk.say("begin talk 3"),
...  desk.say("stands"), desk.say("latest"), desk.say("wait 9"), desk.say("stands"))
('9', 'lives', '14', '1 3', '21', 'lapsed', 'lapsed 14')
"""
SECTIONS = (LAPSES, ORDERS, BOUNDS, PAPERS, COMPARING, UNSURE, DESK)


class Sessions(unittest.TestCase):
    def assert_session(self, text):
        told = []
        test = doctest.DocTestParser().get_doctest(text, {}, self.id(), None, 0)
        result = doctest.DocTestRunner().run(test, out=told.append)
        self.assertGreater(result.attempted, 0)
        self.assertEqual(result.failed, 0, "".join(told))

    def test_overview(self):
        self.assert_session(OVERVIEW)

    def test_later_sections(self):
        for section in SECTIONS:
            self.assert_session(OVERVIEW + section)

    def test_all_sections_in_one_session(self):
        self.assert_session("".join((OVERVIEW, *SECTIONS)))
