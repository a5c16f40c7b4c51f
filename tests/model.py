"""A second, plain account of what deeds do and of what clauses ask, with which the program is compared.

It knows no class of the program: deeds and clauses are texts, and what a project is, is worked out anew from the row
of all deeds for each question.
"""


def words_of(text):
    """A deed as (kind, fix or None, numbers, stop)."""
    words = text.split(" ")
    kind, rest = words[0], words[1:]
    stop = None
    if "to" in rest:
        stop = rest[rest.index("to") + 1]
        rest = rest[:rest.index("to")]
        stop = stop if kind == "merge" else int(stop)
    fix = rest.pop(0) if kind in ("fix", "unfix", "carry", "drop") else None
    return kind, fix, [int(word) for word in rest], stop


class Model:
    """A project that grows; lines and days are dicts."""

    def __init__(self, lot):
        self.lot = sorted(lot)
        self.main = set()
        self.lines = {}
        self.days = {}
        self.tried = set()

    def last(self, line):
        return len(self.lines[line]["releases"]) - 1

    def live(self, line):
        return self.lines[line]["live"]

    def tries(self, kind, one, two):
        """The two releases that a try, probe or meet is about, as a frozenset; None if one is missing."""
        first = self.live(one) if kind == "meet" else self.last(one)
        second = self.last(two) if kind == "try" else self.live(two)
        if first in (None, -1) or second in (None, -1):
            return None
        return frozenset([(one, first), (two, second)])

    def trouble(self, text):
        """None if the deed can be done, otherwise the name of the error and what it tells."""
        kind, fix, numbers, stop = words_of(text)
        for named in [fix] + ([stop] if kind == "merge" else []):
            if named is not None and named not in self.lot:
                return ("NoFix", named)
        days = kind in ("redo", "renew", "shut")
        for number in numbers:
            if number not in (self.days if days else self.lines):
                return ("NoDay" if days else "NoLine", number)
        if not self.ready(kind, fix, numbers):
            return ("Undone", None)
        if kind == "cut" and len(self.lines) >= 6:
            return ("TooMany", "lines")
        if kind == "offer" and self.last(numbers[0]) >= 59:
            return ("TooMany", "releases")
        if kind in ("day", "night") and len(self.days) + len(self.done(numbers, stop)) > 200:
            return ("TooMany", "days")
        return None

    def ready(self, kind, fix, numbers):
        if kind == "fix":
            return fix not in self.main
        if kind == "unfix":
            return fix in self.main
        if kind == "cut":
            return True
        if kind in ("try", "probe", "meet"):
            return self.tries(kind, *numbers) is not None
        return all(self.ready_for(kind, fix, number) for number in numbers)

    def ready_for(self, kind, fix, number):
        if kind in ("redo", "renew", "shut"):
            day = self.days[number]
            return not day["shut"] and (kind == "shut" or self.live(day["line"]) is not None)
        line = self.lines[number]
        if kind in ("carry", "drop", "merge", "end", "offer"):
            held = {"carry": fix not in line["has"], "drop": fix in line["has"]}
            return line["open"] and held.get(kind, True)
        if kind in ("live", "rise"):
            return self.last(number) >= 0 and self.live(number) != self.last(number)
        return self.live(number) is not None

    @staticmethod
    def done(numbers, stop):
        return numbers if stop is None else numbers[:numbers.index(stop) + 1]

    def do(self, text):
        kind, fix, numbers, stop = words_of(text)
        if kind == "fix":
            self.main.add(fix)
        if kind == "unfix":
            self.main.remove(fix)
        if kind == "cut":
            self.lines[len(self.lines) + 1] = {"has": set(self.main), "open": True, "releases": [], "live": None}
        if kind in ("try", "probe", "meet"):
            self.tried.add(self.tries(kind, *numbers))
            return
        if kind == "merge":
            for each in self.lot:
                if each in self.main and (stop is None or each <= stop):
                    self.lines[numbers[0]]["has"].add(each)
            return
        for number in self.done(numbers, stop):
            self.do_one(kind, fix, number)

    def do_one(self, kind, fix, number):
        if kind in ("redo", "renew"):
            day = self.days[number]
            day["has"] = set(self.lines[day["line"]]["releases"][self.live(day["line"])])
            return
        if kind == "shut":
            self.days[number]["shut"] = True
            return
        line = self.lines[number]
        if kind == "carry":
            line["has"].add(fix)
        if kind == "drop":
            line["has"].remove(fix)
        if kind == "end":
            line["open"] = False
        if kind == "offer":
            line["releases"].append(set(line["has"]))
        if kind in ("live", "rise"):
            line["live"] = self.last(number)
        if kind == "down":
            line["live"] = None
        if kind in ("day", "night"):
            made = set(line["releases"][line["live"]])
            self.days[len(self.days) + 1] = {"line": number, "has": made, "shut": False}

    def picture(self):
        """All that there is, as plain values."""
        return (
            sorted(self.main),
            [(sorted(line["has"]), [sorted(told) for told in line["releases"]], line["live"], line["open"])
             for line in self.lines.values()],
            [(day["line"], sorted(day["has"]), day["shut"]) for day in self.days.values()],
            sorted(tuple(sorted(pair)) for pair in self.tried),
        )

    def says(self, word, place, fix):
        """Whether a word of places is true, told by the words of the document."""
        opposites = {"lacks": "has", "ended": "open"}
        plain = opposites.get(word, word[2:] if word.startswith("un") else word)
        if plain != word:
            return not self.says(plain, place, fix)
        if place == 0:
            return word == "open" or (word == "has" and fix in self.main)
        line = self.lines[place]
        last = line["releases"][-1] if line["releases"] else None
        live = None if line["live"] is None else line["releases"][line["live"]]
        return {
            "has": fix in line["has"],
            "open": line["open"],
            "shipped": any(fix in told for told in line["releases"]),
            "missed": any(fix not in told for told in line["releases"]),
            "gives": last is not None and fix in last,
            "omits": last is not None and fix not in last,
            "up": live is not None,
            "runs": live is not None and fix in live,
            "bares": live is not None and fix not in live,
            "fresh": last is not None and line["live"] == self.last(place),
        }[word]

    def says_two(self, word, own, other):
        if word.startswith("un"):
            return not self.says_two(word[2:], own, other)
        if own == 0:
            return False
        first = self.live(own) if word in ("backed", "met") else self.last(own)
        second = self.live(other) if word in ("probed", "met") else self.last(other)
        return frozenset([(own, first), (other, second)]) in self.tried

    def says_day(self, word, day, fix):
        if word.startswith("un"):
            return not self.says_day(word[2:], day, fix)
        told = self.days[day]
        if word == "shut":
            return told["shut"]
        if word == "keeps":
            return fix in told["has"]
        return (fix in told["has"]) == self.says("runs", told["line"], fix)

    def says_literal(self, text, scope, case):
        who, word = text.split(" ")
        line, fix, other, day = case
        if who == "day":
            return self.says_day(word, day, fix)
        if word.removeprefix("un") in ("tried", "probed", "backed", "met"):
            return self.says_two(word, line, other)
        if who == "other" and scope in ("need", "user"):
            return self.says(word, line, other)
        return self.says(word, {"own": line, "main": 0, "mate": other, "other": other}[who], fix)

    def all_cases(self, clause, deed, needs):
        """The cases in which a clause is asked of a deed; needs is a dict from fixes to lists."""
        kind, scope = clause.split(":")[0].split(" ")
        literals = [] if clause.endswith(": never") else clause.split(": ")[1].split(" or ")
        told, named, numbers, _ = words_of(deed)
        if told != kind:
            return []
        fix_words = "has shipped missed gives omits runs bares keeps alike".split()
        about = [word.split(" ")[1] for word in literals]
        asked = scope in ("need", "user") or any(
            word == "lacks" or word in fix_words or word[2:] in fix_words for word in about)
        fixes = ([named] if named else list(self.lot)) if asked else [None]
        if kind in ("redo", "renew", "shut"):
            owns = [(self.days[day]["line"], day) for day in numbers]
        elif kind in ("fix", "unfix", "cut"):
            owns = [(0, None)]
        else:
            owns = [(line, None) for line in (numbers[:1] if kind in ("try", "probe", "meet") else numbers)]
        return [(line, fix, other, later)
                for line, day in owns for fix in fixes
                for other, later in self.scope_cases(scope, kind, line, fix, day, numbers, needs)]

    def scope_cases(self, scope, kind, line, fix, day, numbers, needs):
        if kind in ("try", "probe", "meet"):
            return [(numbers[1], None)]
        if scope == "newer":
            return [(other, day) for other in self.lines if line != 0 and other > line]
        if scope == "elder":
            return [(other, day) for other in self.lines if line == 0 or other < line]
        if scope == "need":
            return [(other, day) for other in self.lot if other in needs.get(fix, [])]
        if scope == "user":
            return [(other, day) for other in self.lot if fix in needs.get(other, [])]
        if scope == "day":
            return [(None, later) for later in self.days if self.days[later]["line"] == line]
        return [(None, day)]

    def first_failure(self, clause, deed, needs):
        scope = clause.split(":")[0].split(" ")[1]
        literals = [] if clause.endswith(": never") else clause.split(": ")[1].split(" or ")
        for case in self.all_cases(clause, deed, needs):
            if not any(self.says_literal(text, scope, case) for text in literals):
                return case
        return None


def picture_of(ground):
    """What picture tells, of a Ground."""
    return (
        list(ground.main),
        [(list(line.lot), [list(lot) for lot in line.releases], line.live, line.is_open) for line in ground.lines],
        [(day.line, list(day.lot), day.is_shut) for day in ground.days],
        [pair for pair in ground.tried],
    )
