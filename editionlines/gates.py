"""Books that are asked at many standings of one kind."""

from editionlines.moves import Move, Rules, all_deeds, is_ready, step_behind
from editionlines.vocabulary import is_two_word, plain_word


def question_of(literal, case):
    """What a literal asks in a Case: a tuple of what it asks of, its plain word, a number, and a fix or a number."""
    plain = plain_word(literal.word)
    if literal.who == "day":
        return ("day", plain, case.day, case.fix if literal.per_fix else None)
    if is_two_word(plain):
        return ("two", plain, case.line, case.other)
    place, fix = literal.place_in(case)
    return ("place", plain, place, fix if literal.per_fix else None)


def is_so(standing, question):
    """Whether what a question asks is true at a Standing that tells it."""
    group, word, number, about = question
    if group == "day":
        return standing.day_is(word, number, about)
    if group == "two":
        # Beside main as own none of these words is true.
        return number > 0 and standing.two_are(word, number, about)
    return standing.place_is(word, number, about)


class Plan:
    """What a book asks of each deed at the standings that have so many lines and days and the same order of fixes.

    A row of it is a Move and a pair of sums of bits for each case: of the questions of which one must be true, and of
    those of which one must be false, so that the clause holds. Which cases there are hangs on these few things alone.
    """

    def __init__(self, book, standing):
        self.bits = {}
        needs = standing.own_needs()
        rows = []
        for deed in all_deeds(standing.names, standing.line_count, standing.day_count):
            pairs = []
            for clause in book[deed.KIND]:
                for case in clause.cases(standing, deed, needs):
                    pairs.append(self.pair_of(clause, case))
            rows.append((Move(deed, standing.names), tuple(pairs)))
        self.rows = tuple(rows)

    def pair_of(self, clause, case):
        """The pair of sums of bits for a case of a clause."""
        wanted = 0
        unwanted = 0
        for literal in clause:
            question = question_of(literal, case)
            if question not in self.bits:
                self.bits[question] = 1 << len(self.bits)
            bit = self.bits[question]
            if literal.word == plain_word(literal.word):
                wanted = wanted | bit
            else:
                unwanted = unwanted | bit
        return (wanted, unwanted)

    def bits_at(self, standing):
        """The sum of the bits of all questions to which the answer is yes at a Standing."""
        return sum([self.bits[question] for question in self.bits if is_so(standing, question)])


def all_hold(pairs, bits):
    """Whether in each case something is as it must be, told by the sum of the bits of what is true."""
    for wanted, unwanted in pairs:
        if bits & wanted == 0 and bits & unwanted == unwanted:
            return False
    return True


class Gate:
    """A book that is asked at standings of one kind, which tell all that it looks at."""

    def __init__(self, book, kind, features):
        self.book_asked = book
        self.rules = Rules(kind, features)
        self.plans = {}

    def plan_at(self, standing):
        """The Plan of a Standing."""
        key = (standing.is_turned, standing.line_count, standing.day_count)
        if key not in self.plans:
            self.plans[key] = Plan(self.book_asked, standing)
        return self.plans[key]

    def let_states(self, standing):
        """The list of the pairs of a deed of the steps of a Standing that is let, and the state behind it."""
        plan = self.plan_at(standing)
        bits = plan.bits_at(standing)
        found = []
        for move, pairs in plan.rows:
            if is_ready(standing.state, move, self.rules) and all_hold(pairs, bits):
                later = step_behind(standing.state, move, self.rules)
                if later is not None:
                    found.append((move.deed, later))
        return found

    def told_of(self, standing, kind):
        """The list of the pairs of a deed of a kind that can be done at a Standing, and whether it is let there."""
        plan = self.plan_at(standing)
        bits = plan.bits_at(standing)
        rows = [row for row in plan.rows if row[0].word == kind and is_ready(standing.state, row[0], self.rules)]
        return [(move.deed, all_hold(pairs, bits)) for move, pairs in rows]
