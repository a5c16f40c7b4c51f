"""Notes."""

import itertools
import unittest

from editionlines.errors import BadText, BadWay, EditionError, TooMany, Unlike
from editionlines.histories import History
from editionlines.lots import Lot
from editionlines.notes import Note, note_of
from editionlines.numbers import Number, Release
from tools import EditionTest, any_values, random_history, randoms

LOTS = [Lot(*some) for many in range(4) for some in itertools.combinations("fgh", many)]
NOTES = [Note(one, other) for one in LOTS for other in LOTS if not set(one) & set(other)]
EIGHT = Lot(*"abcdefgh")


def added(*notes):
    """The sum from the left, or the error."""
    try:
        found = notes[0]
        for note in notes[1:]:
            found = found + note
        return str(found)
    except EditionError as error:
        return repr(error)


class NoteTest(EditionTest):
    def test_made(self):
        note = Note(gained=Lot("f"), lost=Lot("h", "g"))
        self.assertEqual((note.gained, note.lost), (Lot("f"), Lot("g", "h")))
        self.assertEqual([bool(Note(Lot(), Lot())), bool(Note(Lot("f"), Lot())), bool(Note(Lot(), Lot("f")))], [False, True, True])
        self.assertEqual(len(NOTES), 27)
        for one, other in itertools.product(NOTES, repeat=2):
            self.assertEqual(one == other, (one.gained, one.lost) == (other.gained, other.lost))

    def test_errors(self):
        for value in any_values():
            if type(value) is not Lot:
                self.refuses(BadWay("gained"), Note, value, value)
                self.refuses(BadWay("lost"), Note, Lot("f"), value)
            if type(value) is not Note:
                self.refuses(BadWay("other"), lambda: Note(Lot("f"), Lot()) + value)
                self.assertNotEqual(Note(Lot(), Lot()), value)
            if not (isinstance(value, Release) and value.lot is not None):
                self.refuses(BadWay("release"), note_of, value, value)
                self.refuses(BadWay("other"), note_of, Release(Number(1, 0), Lot("f")), value)
        self.refuses(BadWay("both"), Note, Lot("f", "g"), Lot("g", "h"))
        good = Release(Number(1, 0), Lot("f"))
        for bad in (Release(None, Lot("f")), Release((1, 0), Lot("f")), Release(Number(1, 0), None), Release(Number(1, 0), ("f",))):
            self.refuses(BadWay("release"), note_of, bad, None)
            self.refuses(BadWay("other"), note_of, good, bad)

    def test_of_releases(self):
        one, other = Release(Number(2, 1), Lot("f", "g")), Release(Number(1, 0), Lot("g", "h"))
        self.assertEqual(note_of(one, other), Note(Lot("h"), Lot("f")))
        self.assertEqual(note_of(release=other, other=one), Note(Lot("f"), Lot("h")))
        self.assertFalse(note_of(one, one))
        for rng in randoms("notes", 10):
            releases = random_history(rng, many=40).releases
            for first, second, third in itertools.product(releases[:4], repeat=3):
                both = note_of(first, second) + note_of(second, third)
                self.assertEqual(both, note_of(first, third))
                self.assertEqual(-note_of(first, second), note_of(second, first))

    def test_added(self):
        def note(text):
            return Note.read(text)

        self.assertEqual(str(note("+f -g") + note("+g -f")), "-")
        self.assertEqual(str(note("+f") + note("-f")), "-")
        self.assertEqual(str(note("+f -g") + note("+h -f")), "+h -g")
        self.assertEqual(str(note("+f") + note("+g -h")), "+f +g -h")
        self.assertEqual(str(note("-") + note("+g -h")), "+g -h")
        self.refuses(Unlike("fix"), lambda: note("+f") + note("+f"))
        self.refuses(Unlike("fix"), lambda: note("+g -f") + note("-f"))
        self.refuses(Unlike("fix"), lambda: note("-f") + note("+g -f"))
        full, more = Note(EIGHT, Lot()), Note(Lot("x"), Lot())
        self.refuses(TooMany("fixes", 8), lambda: full + more)
        self.refuses(TooMany("fixes", 8), lambda: -full + -more)
        self.refuses(Unlike("fix"), lambda: full + Note(Lot("a", "x"), Lot()))
        # What goes in and out again does not count.
        self.assertEqual(full + Note(Lot("x"), Lot("a")), Note(Lot(*"bcdefghx"), Lot()))
        self.assertEqual(full + -full, Note(Lot(), Lot()))
        self.assertEqual(full + Note(Lot(), Lot("x")), Note(EIGHT, Lot("x")))

    def test_in_any_grouping(self):
        for one, two, three in itertools.product(NOTES[::2], NOTES, NOTES[::3]):
            try:
                left = (one + two) + three
                right = one + (two + three)
            except Unlike:
                continue
            self.assertEqual(left, right)
        for one, other in itertools.product(NOTES, repeat=2):
            told = added(one, other)
            self.assertEqual(told, added(other, one))
            fits = not (set(one.gained) & set(other.gained) or set(one.lost) & set(other.lost))
            self.assertEqual("Unlike" not in told, fits)
            if fits:
                self.assertEqual(-(one + other), -one + -other)

    def test_texts(self):
        for note in NOTES:
            words = [f"+{fix}" for fix in note.gained] + [f"-{fix}" for fix in note.lost]
            self.assertEqual(str(note), " ".join(words) or "-")
            self.assertEqual(Note.read(str(note)), note)
        self.holds_both_ways(Note.read, ["-", "+abcdefgh", " ".join(f"+{fix}" for fix in EIGHT) + " -i -j -k -l -m -n -o -p"])
        self.refuses_no_texts(Note.read)
        self.refuses_words(Note.read, [
            ("", 0), (" ", 0), ("f", 0), ("+", 0), ("++f", 0), ("+F", 0), ("+f ", 1), ("- ", 1), ("- +f", 1), ("+f -", 1),
            ("-f +g", 1), ("+g +f", 1), ("+f +f", 1), ("-g -f", 1), ("-f -f", 1), ("+f -f", 1), ("+f +g -g", 2), ("+f, +g", 0),
            ("+abcdefghi", 0), (" ".join(f"+{fix}" for fix in "abcdefghi"), 8), (" ".join(f"-{fix}" for fix in "abcdefghi"), 8),
            ("+f -g -h +i", 3), ("--", 0), ("+-f", 0), ("-f -", 1),
        ])
        for text in ("+f +g -h", "-", "-f -g"):
            self.looks_at_spoilt(Note.read, text, ["+a", "-a", "+z", "-z", "+f", "-f"])

    def test_of_ways(self):
        history = History.read("f g h : fix f, fix g, cut, offer 1, drop f 1, carry h 1, offer 1")
        one, other = history.releases
        self.assertEqual(str(note_of(one, other)), "+h -f")
        self.refuses(BadText(0, 1), Note.read, "+h +f")


if __name__ == "__main__":
    unittest.main()
