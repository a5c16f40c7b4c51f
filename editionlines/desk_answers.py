"""The lines that ask what stands on a desk: each one is answered by a function of a Page and what the line tells."""

from editionlines.catchups import catchup
from editionlines.climbs import climb
from editionlines.compared import follows, needless
from editionlines.desk_pages import spaced
from editionlines.dues import due_days, late_days
from editionlines.judging import judged
from editionlines.prices import Prices
from editionlines.repair import least_repair, steps_of
from editionlines.rollouts import rollout
from editionlines.takedowns import takedown
from editionlines.texts import project_text
from editionlines.tries import may_meet, untried
from editionlines.ways import losses
from editionlines.webs import again


def rows_text(rows):
    """The text of some pairs, triples or other rows with ` , ` between, `-` for none."""
    return " , ".join(rows) or "-"


def deeds_text(deeds):
    """The text of some deeds with `, ` between, `-` for none."""
    return ", ".join([str(deed) for deed in deeds]) or "-"


def show_answer(page, things):
    """The text of the project in one row."""
    return project_text(page.project).replace("\n", " / ")


def clauses_answer(page, things):
    """The text of the book."""
    return str(page.project.book)


def names_answer(page, things):
    """The names of the wishes."""
    return spaced(sorted([str(name) for name in page.wishes]))


def let_answer(page, things):
    """Whether the project would do a deed."""
    return "yes" if page.project.let(things[0]) else "no"


def has_answer(page, things):
    """What main or a line has."""
    return str(page.project[things[0]])


def kept_answer(page, things):
    """Whether a wish is kept now, or what breaks it."""
    wish = page.wish_named(things[0])
    history = page.project.history_now
    for found in wish.breaks(history.ground, history.needs):
        return " , ".join([f"{letter} {found[letter]}" for letter in found]) or "here"
    return "kept"


def judge_answer(page, things):
    """Whether a wish holds under the book, or the deeds that break it."""
    found = judged(page.project.book, page.wish_named(things[0]))
    return "holds" if found else f"broken {deeds_text(found.history)}"


def follows_answer(page, things):
    """Whether a clause follows from the book, or a history that shows that it does not."""
    found = follows(page.project.book, things[0])
    return "yes" if found else str(found.history)


def needless_answer(page, things):
    """The clauses of the book that follow from the others."""
    return "; ".join([str(clause) for clause in needless(page.project.book)]) or "-"


def losses_answer(page, things):
    """What is lost on the ways of a rule."""
    history = page.project.history_now
    rule = things[0]
    return rows_text([f"{start} {goal} {fix}" for start, goal, fix in losses(history, rule)])


def climb_answer(page, things):
    """The climb from a release to another one."""
    start, goal, stride, lot = things
    found = climb(page.project.history_now, start, goal, lot, stride)
    return spaced(found.numbers) if found else "none"


def untried_answer(page, things):
    """The pairs of live releases that were not tried."""
    return rows_text([f"{one} {other}" for one, other in untried(page.project.history_now)])


def meetable_answer(page, things):
    """The pairs of shown releases that were not tried."""
    return rows_text([f"{one} {other}" for one, other in may_meet(page.project.history_now)])


def takedown_answer(page, things):
    """What to take down, and the price."""
    found = takedown(page.project.history_now)
    return f"{found.price} : {spaced(found.lines)}"


def rollout_answer(page, things):
    """How the last releases go live, some lines being kept."""
    history = page.project.history_now
    lines = things[0]
    found = rollout(history, *lines)
    return deeds_text(found.deeds) if found else "stuck"


def repair_answer(page, things):
    """The price of the least repair, and its deeds."""
    found = least_repair(page.project.history_now, Prices(1, 1, 1, 1))
    if not found:
        return "none"
    mending = found.mending
    return f"{found.price} : {deeds_text(list(steps_of(mending)))}"


def due_answer(page, things):
    """The days that are due."""
    return spaced(due_days(page.project.history_now))


def late_answer(page, things):
    """The days that are late."""
    return spaced(late_days(page.project.history_now))


def remade_answer(page, things):
    """What is made again by the web if some days are, and what is left."""
    history = page.project.history_now
    web = page.web
    days = things[0]
    found = again(history, web, *days)
    return f"{spaced(found.days)} : {spaced(found.left)}"


def catchup_answer(page, things):
    """How many nights it takes to catch up with some amounts."""
    found = catchup(page.project.history_now, page.web, tuple(things[0]))
    return f"over {found.nights}" if found else "never"


ANSWERS = {
    "show": show_answer, "clauses": clauses_answer, "names": names_answer, "let": let_answer, "has": has_answer,
    "kept": kept_answer, "judge": judge_answer, "follows": follows_answer, "needless": needless_answer,
    "losses": losses_answer, "climb": climb_answer, "untried": untried_answer, "meetable": meetable_answer,
    "takedown": takedown_answer, "rollout": rollout_answer, "repair": repair_answer, "due": due_answer,
    "late": late_answer, "remade": remade_answer, "catchup": catchup_answer,
}


def answer_to(page, word, things):
    """The answer to a line that asks, with this first word and these things."""
    answer = ANSWERS[word]
    return answer(page, things)
