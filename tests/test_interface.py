"""That what the document lists exists under its name: in its file, in the body of its class, with its parameters."""

import importlib
import inspect
import unittest

FUNCTIONS = {
    "checks": {"is_integer": "value", "is_fix": "value", "is_within": "value, least, most"},
    "words": {"number_of": "word, least, most"},
    "kinds": {"closed": "words"},
    "cutting": {"rest_of": "deed", "stops_of": "deed, lot", "few_things": "history, fixes, lines, days"},
    "tables": {"features_of": "book, wish", "needs_of": "standing", "lot_of": "kind", "let_deeds": "book, standing",
               "walked": "book, kind, features", "reached": "book, wish", "depths": "book, wish", "shortest": "book, wish"},
    "judging": {"judged": "book, wish", "verdicts": "book, *wishes"},
    "look_judging": {"shows_judged": "book, wish, value"},
    "compared": {"follows": "book, clause", "within": "one, other", "alike": "one, other", "needless": "book",
                 "lean": "book"},
    "look_compared": {"shows_follows": "book, clause, value", "shows_within": "one, other, value"},
    "shelves": {"least_choices": "shelf, wishes, ground=None, musts=()"},
    "look_shelves": {"shows_choices": "shelf, wishes, value, ground=None, musts=()"},
    "notes": {"note_of": "release, other"},
    "ways": {"ways": "history, rule", "losses": "history, rule", "running": "history", "next_losses": "history",
             "bared": "history"},
    "climbs": {"climb": "history, start, goal, lot, stride, live=False", "stuck": "history, lot, stride",
               "shows_climb": "history, start, goal, lot, stride, value, live=False"},
    "tries": {"untried": "history", "may_meet": "history", "settling": "history"},
    "takedowns": {"at_once": "history", "takedown": "history, prices=None"},
    "look_takedowns": {"shows_takedown": "history, value, prices=None"},
    "rollouts": {"rollout": "history, *kept", "rise_stops": "history"},
    "look_rollouts": {"shows_rollout": "history, value, *kept"},
    "dues": {"day_word": "history, day", "due_days": "history", "late_days": "history", "dropped_days": "history"},
    "webs": {"again": "history, web, *days"},
    "catchups": {"least_amount": "history, web, nights", "listed": "history, web, amounts, nights",
                 "nightly": "history, web, amounts, nights", "catchup": "history, web, amounts"},
    "look_catchups": {"shows_again": "history, web, days, value", "shows_catchup": "history, web, amounts, value"},
    "repair": {"mending": "history, stays", "mendings": "history", "steps_of": "mending", "price_of": "mending, prices",
               "least_repair": "history, prices"},
    "look_repair": {"shows_mending": "history, value", "shows_repair": "history, prices, value"},
    "texts": {"write_answer": "answer", "project_text": "project"},
    "reader": {"read_answer": "text", "read_project": "text"},
}
# Of each class the parameters of the class, and its methods with their parameters; double underscores are left out.
CLASSES = {
    "papers": {"Paper": (None, {}), "Denial": (None, {"bool": ""})},
    "words": {"Words": ("text, line=0", {
        "spot": None, "len": "", "iter": "", "bool": "", "is_next": "*some", "take": "*some", "take_fix": "",
        "take_number": "least, most", "take_by": "rule", "refuse": "", "end": ""})},
    "lots": {"Lot": ("*fixes", {
        "of": "fixes", "read": "text", "contains": "x", "len": "", "iter": "", "getitem": "at", "or": "other", "and": "other",
        "sub": "other", "xor": "other", "le": "other", "ge": "other", "lt": "other", "gt": "other", "eq": "other", "str": ""})},
    "numbers": {
        "Number": ("line, at", {"lt": "other", "le": "other", "gt": "other", "ge": "other", "eq": "other", "add": "other",
                                "str": "", "read": "text"}),
        "Release": ("number, lot", {"contains": "x", "len": "", "iter": "", "bool": "", "str": ""})},
    "needs": {"Needs": ("parts=None", {
        "getitem": "at", "users": "fix", "contains": "x", "len": "", "iter": "", "bool": "", "all_of": "lot", "only": "lot",
        "eq": "other", "str": "", "read": "text"})},
    "deeds": {
        "Deed": (None, {"eq": "other", "str": "", "read": "text", "own_lines": "", "own_days": "", "own_fixes": "lot",
                        "cut_to": "lot, lines, days"}),
        "OnMain": (None, {}), "OnLine": (None, {}), "OfTwo": (None, {}), "OfMany": (None, {}), "OfDay": (None, {}),
        "Fix": ("fix", {}), "Unfix": ("fix", {}), "Cut": ("", {}), "Carry": ("fix, line", {}), "Drop": ("fix, line", {}),
        "End": ("line", {}), "Offer": ("line", {}), "Live": ("line", {}), "Down": ("line", {}), "Day": ("line", {}),
        "Merge": ("line, upto=None", {}), "Try": ("line, mate", {}), "Probe": ("line, mate", {}), "Meet": ("line, mate", {}),
        "Rise": ("*lines, upto=None", {}), "Night": ("*lines, upto=None", {}), "Redo": ("day", {}), "Shut": ("day", {}),
        "Renew": ("*days, upto=None", {})},
    "views": {"View": (None, {
        "line_count": None, "day_count": None, "line_of": "day", "place_tells": "word, place, fix=None",
        "two_tell": "word, line, other", "day_tells": "word, day, fix=None"})},
    "grounds": {
        "LineState": ("lot, releases=(), live=None, is_open=True", {}), "DayState": ("line, lot, is_shut=False", {}),
        "Ground": ("lot", {"after": "deed", "call": "deed", "can": "deed", "only": "lot, lines, days", "eq": "other"})},
    "literals": {"Literal": ("who, word", {"invert": "", "eq": "other", "str": "", "read": "text", "call": "view, case"})},
    "clauses": {
        "Case": ("line, fix, other, day", {}),
        "Clause": ("kind, scope, *literals", {
            "contains": "x", "len": "", "iter": "", "or": "other", "eq": "other", "str": "", "read": "text",
            "cases": "view, deed, needs=None", "failure": "view, deed, needs=None", "call": "view, deed, needs=None"})},
    "books": {
        "Refusal": ("clause, case", {}),
        "Book": ("*clauses", {
            "of": "clauses", "contains": "x", "len": "", "iter": "", "getitem": "at", "and": "other", "or": "other",
            "sub": "other", "le": "other", "lt": "other", "ge": "other", "gt": "other", "eq": "other",
            "refusal": "history, deed", "call": "history, deed", "lets": "history", "refusal_at": "view, deed, needs=None",
            "str": "", "read": "text", "for_users": "", "for_testers": "", "for_needs": "", "for_clerks": ""})},
    "histories": {"History": ("lot, deeds=(), needs=None", {
        "add": "other", "getitem": "at", "len": "", "iter": "", "contains": "x", "ahead": "n", "grounds": "", "made": "n",
        "release": "number", "were_tried": "one, other", "only": "lot, lines, days", "eq": "other", "str": "",
        "read": "text, needs=None"})},
    "kinds": {"Kind": ("fixes, lines, days=()", {"le": "other", "eq": "other", "str": "", "read": "text"})},
    "projects": {"Project": ("lot, needs=None, book=None", {
        "history_now": None, "ground_now": None, "undone": None, "counts": None, "do": "deed", "call": "deed",
        "do_all": "*deeds", "finish": "", "undo": "", "again": "", "book": None, "set_book": "book", "len": "", "iter": "",
        "getitem": "at", "contains": "x", "let": "deed", "choices": "", "only": "lot, lines, days", "trial": "",
        "attempt": "work, kept=False", "twin": "", "eq": "other"})},
    "stands": {"LineStand": ("has, is_open, past, last, live, fresh", {}), "DayStand": ("keeps, is_shut", {})},
    "standings": {"Standing": (None, {
        "starts": "kind, features=('open', 'past', 'last', 'live', 'tries')", "after": "deed", "call": "deed",
        "askable": "kind=None", "steps": "", "key": None, "eq": "other", "narrowed": "kind, features", "str": "",
        "read": "text", "of": "ground, fixes, lines, days, features=('open', 'past', 'last', 'live', 'tries')"})},
    "wishes": {
        "Fact": ("subject, word, thing=None", {"invert": "", "eq": "other", "str": "", "read": "text"}),
        "Wish": ("kind, *facts", {
            "contains": "x", "len": "", "iter": "", "with_fact": "fact", "le": "other", "eq": "other",
            "breaks": "view, needs=None", "call": "view, needs=None", "str": "", "read": "text", "for_users": "",
            "for_testers": "", "for_clerks": "", "for_needs": "", "for_all": ""})},
    "judging": {
        "Broken": ("history, things", {}), "Holds": ("table", {}),
        "Judge": ("*wishes", {"call": "book", "len": "", "iter": "", "contains": "x", "or": "other", "asked": None,
                              "eq": "other"})},
    "compared": {"Follows": ("table", {}), "Within": ("tables", {}), "Parting": ("history", {})},
    "shelves": {
        "Shelf": ("*clauses", {"len": "", "iter": "", "book_of": "*places", "refusers": "history"}),
        "Choices": ("least, holds, rows", {}), "NoChoice": ("row", {})},
    "notes": {"Note": ("gained, lost", {"add": "other", "neg": "", "bool": "", "eq": "other", "str": "", "read": "text"})},
    "climbs": {"Climb": ("numbers", {}), "NoClimb": ("numbers", {})},
    "takedowns": {"Takedown": ("lines, price", {})},
    "rollouts": {"Rollout": ("deeds", {}), "Stuck": ("stands", {})},
    "webs": {
        "Web": ("*ties", {"contains": "x", "len": "", "iter": "", "or": "other", "eq": "other", "sources": "history, day",
                          "users": "history, day", "cut_to": "lines", "str": "", "read": "text"}),
        "Again": ("days, left", {})},
    "catchups": {"Over": ("nights", {}), "Never": ("begin, later", {})},
    "prices": {"Prices": ("carry=1, test=1, again=1, down=None, special=None", {
        "call": "deed", "sum_of": "deeds", "add": "other", "mul": "other", "rmul": "other", "eq": "other"})},
    "repair": {"Mending": ("stays, lots, downs, carried, renewed, tests, redone", {}), "Unmended": ("stays, lots, line", {}),
               "Repair": ("price, mending, rows", {}), "NoRepair": ("rows", {})},
    "desk": {"Desk": ("", {
        "ask": "line", "call": "line", "run": "*lines", "project_now": "", "wishes_now": "", "web_now": "", "len": "",
        "contains": "x", "eq": "other"})},
}


def parameters(call, is_bound):
    """The parameters of a function or method as the document writes them, without self or cls."""
    told = list(inspect.signature(call).parameters.values())[0 if is_bound else 1:]
    return ", ".join(str(part) for part in told)


class InterfaceTest(unittest.TestCase):
    def test_functions(self):
        for file, rows in FUNCTIONS.items():
            module = importlib.import_module("editionlines." + file)
            for name, told in rows.items():
                call = getattr(module, name)
                self.assertEqual(call.__module__, module.__name__)
                self.assertEqual(parameters(call, True), told, name)

    def test_classes(self):
        for file, rows in CLASSES.items():
            module = importlib.import_module("editionlines." + file)
            for name, (told, methods) in rows.items():
                kind = getattr(module, name)
                self.assertEqual(kind.__module__, module.__name__)
                if told:
                    self.assertIn("__init__", vars(kind), name)
                if told is not None:
                    self.assertEqual(parameters(kind, True), told, name)
                for method, wanted in methods.items():
                    self.look_at(kind, method, wanted)

    def look_at(self, kind, method, wanted):
        is_plain = method in vars(kind)
        self.assertIn(method if is_plain else f"__{method}__", vars(kind), kind)
        found = vars(kind)[method if is_plain else f"__{method}__"]
        if wanted is None:
            self.assertIsInstance(found, property)
        elif isinstance(found, (staticmethod, classmethod)):
            self.assertEqual(parameters(getattr(kind, method), True), wanted, (kind, method))
        else:
            self.assertEqual(parameters(found, False), wanted, (kind, method))


if __name__ == "__main__":
    unittest.main()
