"""What holds over the whole program: papers, arguments by name, generators, and what was returned."""

import copy
import importlib
import inspect
import os
import unittest

from editionlines.books import Book
from editionlines.catchups import catchup, least_amount, listed, nightly
from editionlines.climbs import climb, shows_climb, stuck
from editionlines.compared import alike, follows, lean, needless, within
from editionlines.cutting import few_things, rest_of, stops_of
from editionlines.deeds import Cut, Deed, Merge, Night
from editionlines.desk import Desk
from editionlines.dues import day_word, dropped_days, due_days, late_days
from editionlines.errors import BadInput, EditionError, NoAnswer
from editionlines.histories import History
from editionlines.judging import Judge, judged, verdicts
from editionlines.kinds import Kind
from editionlines.look_catchups import shows_again, shows_catchup
from editionlines.look_compared import shows_follows, shows_within
from editionlines.look_judging import shows_judged
from editionlines.look_repair import shows_mending, shows_repair
from editionlines.look_rollouts import shows_rollout
from editionlines.look_shelves import shows_choices
from editionlines.look_takedowns import shows_takedown
from editionlines.lots import Lot
from editionlines.notes import note_of
from editionlines.numbers import Number
from editionlines.papers import Denial, Paper
from editionlines.prices import Prices
from editionlines.projects import Project
from editionlines.reader import read_answer, read_project
from editionlines.repair import least_repair, mending, mendings, price_of, steps_of
from editionlines.rollouts import rise_stops, rollout
from editionlines.shelves import Shelf, least_choices
from editionlines.standings import Standing
from editionlines.tables import depths, reached, shortest, walked
from editionlines.takedowns import at_once, takedown
from editionlines.texts import project_text, write_answer
from editionlines.tries import may_meet, settling, untried
from editionlines.ways import bared, losses, next_losses, running, ways
from editionlines.webs import Web, again
from editionlines.wishes import Fact, Wish
from test_interface import CLASSES, FUNCTIONS
from tools import EditionTest, any_values, busy_history, randoms, same

BUSY = History.read("f g : fix f, cut, offer 1, live 1, day 1, unfix f, cut, offer 2, live 2, day 2, meet 1 2, carry g 2, offer 2, shut 1")
WEB = Web((1, 1, 0), (2, 1, 0))
IDLE = Wish(Kind(0, 1), Fact("A", "ended"), Fact("A", "open"))
CLAUSE = Book.read("offer elder: other has or own lacks")["offer"][0]
SHELF = Shelf(*Book.read("drop once: never; unfix once: never"))
KEPT = Wish.read("never 1 1 : A omits F , A shipped F")
# The functions of the interface, each with arguments that fit, under the names of its parameters.
CALLS = [
    (rest_of, {"deed": Merge(1, "f")}), (stops_of, {"deed": Night(1, 2, 3), "lot": Lot()}),
    (few_things, {"history": BUSY, "fixes": 1, "lines": 1, "days": 1}), (walked, {"book": Book(), "kind": Kind(0, 1), "features": ("open",)}),
    (reached, {"book": Book(), "wish": IDLE}), (depths, {"book": Book(), "wish": IDLE}), (shortest, {"book": Book(), "wish": IDLE}),
    (judged, {"book": Book(), "wish": Wish.for_needs()}), (judged, {"book": Book(), "wish": IDLE}), (follows, {"book": Book(), "clause": CLAUSE}),
    (within, {"one": Book(CLAUSE), "other": Book(CLAUSE)}), (alike, {"one": Book(CLAUSE), "other": Book()}), (needless, {"book": Book(CLAUSE)}),
    (lean, {"book": Book(CLAUSE)}), (least_choices, {"shelf": SHELF, "wishes": [KEPT], "ground": Book.read("offer once: never"), "musts": (BUSY,)[:0]}),
    (note_of, {"release": BUSY.releases[0], "other": BUSY.releases[1]}), (ways, {"history": BUSY, "rule": "live"}),
    (losses, {"history": BUSY, "rule": "any"}), (running, {"history": BUSY}), (next_losses, {"history": BUSY}), (bared, {"history": BUSY}),
    (climb, {"history": BUSY, "start": Number(1, 0), "goal": Number(2, 0), "lot": Lot(), "stride": 1, "live": False}),
    (stuck, {"history": BUSY, "lot": Lot("f"), "stride": 1}), (untried, {"history": BUSY}), (may_meet, {"history": BUSY}),
    (settling, {"history": BUSY}), (at_once, {"history": BUSY}), (takedown, {"history": BUSY, "prices": {1: 2}}), (rise_stops, {"history": BUSY}),
    (day_word, {"history": BUSY, "day": 1}), (due_days, {"history": BUSY}), (late_days, {"history": BUSY}), (dropped_days, {"history": BUSY}),
    (listed, {"history": BUSY, "web": WEB, "amounts": (1,), "nights": 2}), (nightly, {"history": BUSY, "web": WEB, "amounts": (1,), "nights": 2}),
    (catchup, {"history": BUSY, "web": WEB, "amounts": (1,)}), (least_amount, {"history": BUSY, "web": WEB, "nights": 2}),
    (mending, {"history": BUSY, "stays": [1, 2]}), (mendings, {"history": BUSY}), (steps_of, {"mending": mending(BUSY, (1, 2))}),
    (price_of, {"mending": mending(BUSY, (1, 2)), "prices": Prices()}), (least_repair, {"history": BUSY, "prices": Prices()}),
    (write_answer, {"answer": judged(Book(), IDLE)}), (project_text, {"project": Project(Lot("f"))}), (read_answer, {"text": "climb 1.0"}),
    (read_project, {"text": "lot f\nneeds -\ndeed cut"})]
STARRED = [(lambda: list(verdicts(Book(), IDLE, KEPT))), (lambda: rollout(BUSY, 1)), (lambda: again(BUSY, WEB, 1))]


def told(call, *args, **named):
    """What a call returns; of a generator the list of its items."""
    found = call(*args, **named)
    return list(found) if hasattr(found, "__next__") else found


def spoil(value):
    """Changes all that can be changed in what was returned."""
    if isinstance(value, (list, tuple)):
        for part in value:
            spoil(part)
    if isinstance(value, list):
        value.append("spoilt")
    if isinstance(value, dict):
        value["spoilt"] = value.pop(next(iter(value), None), None)
    if isinstance(value, Paper):
        for part in vars(value).values():
            spoil(part)


class WholeTest(EditionTest):
    def test_all_modules_of_the_interface_are_there(self):
        names = "errors checks papers words lots numbers needs deeds views grounds literals clauses books histories cutting projects kinds standings " \
                "stands wishes tables judging look_judging compared look_compared shelves look_shelves notes ways climbs tries takedowns look_takedowns " \
                "rollouts look_rollouts dues webs catchups look_catchups prices repair look_repair texts reader desk desk_lines".split()
        for name in names:
            importlib.import_module("editionlines." + name)
        package = os.path.dirname(importlib.import_module("editionlines").__file__)
        self.assertEqual([name for name in os.listdir(package) if name != "__pycache__" and not name.endswith(".py")], [])
        self.assertTrue(set(FUNCTIONS) | set(CLASSES) <= set(names))

    def test_by_position_and_by_name(self):
        for call, named in CALLS:
            with self.subTest(call=call):
                self.assertEqual(list(inspect.signature(call).parameters), list(named))
                self.assertTrue(same(told(call, *named.values()), told(call, **named)))
                first = dict(list(named.items())[1:])
                self.assertTrue(same(told(call, list(named.values())[0], **first), told(call, **named)))

    def test_what_is_done_to_returned_things_changes_nothing(self):
        for call, named in CALLS + [(call, {}) for call in STARRED]:
            with self.subTest(call=call):
                ahead = copy.deepcopy(named)
                found = told(call, **named)
                first = copy.deepcopy(found)
                spoil(found)
                self.assertTrue(same(told(call, **named), first))
                # No function changes its arguments.
                for name, value in named.items():
                    is_shelf = isinstance(value, Shelf)
                    self.assertTrue(same(list(value), list(ahead[name])) if is_shelf else same(value, ahead[name]))

    def test_equal_answers_for_equal_arguments(self):
        for call, named in CALLS:
            self.assertTrue(same(told(call, **named), told(call, **copy.deepcopy(named))), call)

    def test_what_was_returned_may_be_passed_in_again(self):
        broken, held = judged(Book(), Wish.for_needs()), judged(Book(), IDLE)
        self.assertTrue(shows_judged(Book(), Wish.for_needs(), broken) and shows_judged(Book(), IDLE, held))
        self.assertTrue(shows_follows(Book(), CLAUSE, follows(Book(), CLAUSE)))
        self.assertTrue(shows_within(Book(CLAUSE), Book(CLAUSE), within(Book(CLAUSE), Book(CLAUSE))))
        found = least_choices(SHELF, [KEPT])
        self.assertTrue(shows_choices(SHELF, [KEPT], found))
        rows = [row[1].history for row in found.rows] if found else [found.row[1].history]
        self.assertTrue(all(shows_judged(Book(), KEPT, judged(Book(), KEPT)) and Shelf().refusers(history) == () for history in rows))
        self.assertTrue(shows_climb(BUSY, Number(1, 0), Number(2, 1), Lot("f"), 1, climb(BUSY, Number(1, 0), Number(2, 1), Lot("f"), 1)))
        self.assertTrue(shows_takedown(BUSY, takedown(BUSY)) and shows_rollout(BUSY, rollout(BUSY, 1), 1))
        self.assertTrue(shows_again(BUSY, WEB, due_days(BUSY), again(BUSY, WEB, *due_days(BUSY))))
        self.assertTrue(shows_catchup(BUSY, WEB, (1,), catchup(BUSY, WEB, (1,))))
        self.assertTrue(shows_mending(BUSY, mending(BUSY, takedown(BUSY).lines)))
        self.assertTrue(shows_repair(BUSY, Prices(), least_repair(BUSY, Prices())))
        for number in running(BUSY).values():
            self.assertEqual(BUSY.release(number).number, number)
        for one, other in may_meet(BUSY):
            self.assertFalse(BUSY.were_tried(one, other))
        for deed in settling(BUSY):
            self.assertTrue(BUSY.ground.can(deed))
        for lot, lines, days in few_things(BUSY, 1, 2, 1):
            self.assertEqual(BUSY.only(lot, lines, days).ground, BUSY.ground.only(lot, lines, days))
        project = Project(Lot("f", "g"))
        project.do_all(*BUSY)
        self.assertEqual(project.history_now, BUSY)
        self.assertEqual(read_project(project_text(project.twin())), project)
        self.assertEqual(Desk().ask(str(Cut())), "ok")

    def test_papers(self):
        """Papers keep any values, are equal as Python compares them, and true unless told."""
        false = {"Broken", "Parting", "NoChoice", "NoClimb", "Stuck", "Never", "Unmended", "NoRepair"}
        papers = {"Release": 2, "LineState": 4, "DayState": 3, "Case": 4, "Refusal": 2, "LineStand": 6, "DayStand": 2, "Broken": 2, "Holds": 1, "Follows": 1,
                  "Within": 1, "Parting": 1, "Choices": 3, "NoChoice": 1, "Climb": 1, "NoClimb": 1, "Takedown": 2, "Rollout": 1, "Stuck": 1, "Again": 2,
                  "Over": 1, "Never": 2, "Mending": 7, "Unmended": 3, "Repair": 3, "NoRepair": 1}
        kinds = {name: getattr(importlib.import_module("editionlines." + file), name) for file, rows in CLASSES.items() for name in rows}
        self.assertEqual({name for name, kind in kinds.items() if issubclass(kind, Paper)} - {"Paper", "Denial"}, set(papers))
        for name, many in papers.items():
            names = list(inspect.signature(kinds[name]).parameters)
            self.assertEqual(len(names), many)
            self.assertEqual(issubclass(kinds[name], Denial), name in false)
            for value in any_values():
                values = [value] + [at for at in range(many - 1)]
                paper = kinds[name](*values)
                self.assertEqual(sorted(vars(paper)), sorted(names))
                self.assertTrue(all(same(getattr(paper, part), worth) for part, worth in zip(names, values)))
                self.assertIs(bool(paper), name not in false)
                self.assertEqual(paper, kinds[name](**dict(zip(names, values))))
                self.assertNotEqual(paper, kinds[name](*values[:-1], [values[-1]]))
                self.assertNotEqual(paper, tuple(values))
            self.assertEqual(kinds[name](*[1] * many), kinds[name](*[True] * many))

    def test_errors_stand_where_they_are_told(self):
        module = importlib.import_module("editionlines.errors")
        for name, kind in vars(module).items():
            if inspect.isclass(kind) and kind not in (EditionError, BadInput, NoAnswer):
                self.assertIn(kind.__bases__, ((BadInput,), (NoAnswer,)), name)

    def test_cut_down_histories_decide(self):
        """Of a random history the wish is broken exactly if it is broken in one of those of few things."""
        for rng in randoms("whole", 12):
            history = busy_history(rng, lines=3, many=25)
            for wish in (Wish.for_users(), Wish.for_testers()):
                few = [history.only(lot, lines, days) for lot, lines, days in few_things(history, wish.kind.fixes, 2, 0)]
                self.assertEqual(wish(history.ground), all(wish(one.ground) for one in few))
            for lot, lines, days in few_things(history, 1, 2, 0):
                standing = Standing.of(history.ground, lot.fixes, lines, days)
                self.assertEqual(standing, Standing.of(history.ground.only(lot, lines, days), lot.fixes, (1, 2), ()))

    def test_judges_keep_what_they_told(self):
        judge = Judge(Wish.for_needs(), IDLE)
        first = judge(Book())
        first[0].things["A"] = "spoilt"
        self.assertEqual([judge(Book())[0], judge.asked], [judged(Book(), Wish.for_needs()), 1])
        self.assertEqual(Deed.read("cut"), Cut())


if __name__ == "__main__":
    unittest.main()
