"""The program beside the plain account of tests/model.py, on random histories."""

import unittest

from editionlines.clauses import Case
from editionlines.errors import EditionError
from editionlines.grounds import Ground
from editionlines.lots import Lot
from editionlines.needs import Needs
from model import Model, picture_of
from tools import random_clause, random_deed, random_history, randoms

NEEDS = {"f": ["g"], "h": ["f", "g"]}


def trouble_of(ground, deed):
    """What after raises, as the model tells it."""
    try:
        ground.after(deed)
    except EditionError as error:
        first = [getattr(error, name) for name in ("fix", "line", "day", "at", "what") if hasattr(error, name)]
        return (type(error).__name__, first[0])
    return None


class AgainstModelTest(unittest.TestCase):
    def test_deeds(self):
        seen = {}
        for rng in randoms("deeds", 60):
            fixes = rng.sample(["e", "f", "g", "h"], rng.randint(0, 4))
            ground, model = Ground(Lot(*fixes)), Model(fixes)
            for _ in range(150):
                deed = random_deed(rng, fixes + ["q"] * (rng.random() < 0.1), 4, 4)
                found = trouble_of(ground, deed)
                self.assertEqual(found, model.trouble(str(deed)), str(deed))
                self.assertEqual(ground.can(deed), found is None)
                seen[found and found[0], deed.KIND, deed.stop() is None] = True
                if found is None and (deed.KIND not in ("end", "shut", "down") or rng.random() < 0.1):
                    elder, told = ground, picture_of(ground)
                    ground = ground.after(deed)
                    model.do(str(deed))
                    self.assertEqual(picture_of(elder), told)
                    self.assertEqual(picture_of(ground), model.picture(), str(deed))
        for kind in ("fix", "carry", "merge", "offer", "try", "probe", "meet", "live", "rise", "down", "night", "renew"):
            self.assertIn((None, kind, True), seen)
            self.assertIn(("Undone", kind, True), seen)
        for kind in ("merge", "rise", "night", "renew"):
            self.assertIn((None, kind, False), seen)

    def test_words(self):
        for rng in randoms("words", 25):
            history, model = random_history(rng), Model(["f", "g", "h"])
            for deed in history:
                model.do(str(deed))
            view = history.ground
            for fix in "fgh":
                for place in range(view.line_count + 1):
                    for word in "has shipped missed gives omits up runs bares fresh open lacks ended".split():
                        self.assertEqual(view.place_tells(word, place, fix), model.says(word, place, fix))
                        if word not in ("lacks", "ended", "has", "open"):
                            self.assertEqual(view.place_tells("un" + word, place, fix), not model.says(word, place, fix))
                for day in range(1, view.day_count + 1):
                    for word in "keeps unkeeps shut unshut alike unalike".split():
                        self.assertEqual(view.day_tells(word, day, fix), model.says_day(word, day, fix))
            for line in range(1, view.line_count + 1):
                for other in range(1, view.line_count + 1):
                    for word in "tried untried probed unprobed backed unbacked met unmet".split():
                        if line != other:
                            self.assertEqual(view.two_tell(word, line, other), model.says_two(word, line, other))

    def test_clauses(self):
        held, seen = {True: 0, False: 0}, {}
        for rng in randoms("clauses", 120):
            history, model = random_history(rng, many=rng.randint(3, 40)), Model(["f", "g", "h"])
            for deed in history:
                model.do(str(deed))
            view = history.ground
            for _ in range(120):
                deed = random_deed(rng, "fgh", 3, 4)
                if any(line > view.line_count for line in deed.named_lines()) or \
                        any(day > view.day_count for day in deed.own_days()):
                    continue
                clause = random_clause(rng, deed.KIND if rng.random() < 0.9 else None)
                needs, told = (None, {}) if rng.random() < 0.2 else (Needs(NEEDS), NEEDS)
                cases = [Case(*case) for case in model.all_cases(str(clause), str(deed), told)]
                self.assertEqual(list(clause.cases(view, deed, needs)), cases, (str(clause), str(deed)))
                failure = model.first_failure(str(clause), str(deed), told)
                self.assertEqual(clause.failure(view, deed, needs), failure and Case(*failure), (str(clause), str(deed)))
                self.assertIs(clause(view, deed, needs), failure is None)
                held[failure is None] += 1
                for literal in clause:
                    for case in cases:
                        text, row = str(literal), (case.line, case.fix, case.other, case.day)
                        self.assertIs(literal(view, case), model.says_literal(text, clause.scope, row))
                if cases:
                    seen[clause.kind, clause.scope] = True
        self.assertGreater(min(held.values()), 500)
        self.assertGreater(len(seen), 80)


if __name__ == "__main__":
    unittest.main()
