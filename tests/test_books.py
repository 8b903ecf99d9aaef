"""Promise [13], and [1] and [2] as far as they speak of books."""

import unittest

from asklock.books import played
from asklock.errors import NoHall
from asklock.halls import Hall

from hall_deeds import SIZES, drawn, first_of
from plain import PlainHall
from tellings import NO_COUNTS, Reckoning, all_of

RING = ["ask 0 0", "ask 1 1", "ask 2 2", "ask 0 1", "ask 1 2", "lose 0", "lose 0", "ask 2 0"]


def answers_of(size, *book):
    return played(*size, list(book))[0]


class BookCase(unittest.TestCase):
    def assert_last(self, size, book, expected):
        self.assertEqual(answers_of(size, *book)[-1], expected, book)


class Answers(BookCase):
    """[13]: each deed and each answer."""

    def test_an_empty_book(self):
        answers, hall = played(2, 3, 2, [])
        self.assertEqual(answers, [])
        self.assertEqual(all_of(hall), all_of(Hall(2, 3, 2)))

    def test_kinds(self):
        told = played(2, 2, 2, ["ask 0 0"])
        self.assertEqual([type(told), *map(type, told)], [tuple, list, Hall])
        self.assertEqual(type(told[0][0]), str)

    def test_a_whole_ring(self):
        answers, hall = played(3, 3, 3, RING + ["carry 0"] * 11)
        self.assertEqual(answers, [
            "holds", "holds", "holds", "waits", "waits", "done", "done", "waits",
            *["done"] * 8, "2,0,1", "broken", "NoLetter",
        ])
        path = ((2, 1, 1), (0, 1, 1), (1, 1, 1))
        self.assertEqual((hall.told(), hall.broken()), ([(path, 0)], [(0, 1)]))

    def test_ask(self):
        self.assertEqual(answers_of((2, 1, 1), "ask 1 0", "ask 0 0"), ["holds", "waits"])

    def test_give(self):
        book = ["ask 1 0", "ask 0 0", "ask 2 0", "give 1 0", "give 0 0", "give 2 0"]
        self.assertEqual(answers_of((3, 1, 1), *book)[3:], ["0", "2", "free"])

    def test_done(self):
        for word in ("again", "carry 0", "lose 0", "double 0", "stop 1"):
            self.assert_last((2, 2, 2), ["ask 0 0", "ask 1 0", word], "done")
        self.assert_last((2, 2, 2), ["stop 1", "rise 1"], "done")
        self.assert_last((2, 2, 2), ["again"], "done")

    def test_a_carry_that_tells_no_ring_anew(self):
        book = RING + ["carry 0"] * 8 + ["double 0", "carry 0", "carry 0", "carry 0", "carry 0"]
        self.assertEqual(answers_of((3, 3, 3), *book)[-4:], ["2,0,1", "done", "broken", "done"])

    def test_a_carry_that_loses_the_letter(self):
        for carries, house in ((8, 2), (9, 0)):
            book = RING + ["carry 0"] * carries + [f"stop {house}", "carry 0"]
            self.assert_last((3, 3, 3), book, "done")
            self.assertEqual(played(3, 3, 3, book)[1].road(), [])

    def test_other_deeds_behind_a_ring_are_done(self):
        book = RING + ["carry 0"] * 10 + ["ask 0 0", "carry 0", "again", "lose 0"]
        self.assertEqual(answers_of((3, 3, 3), *book)[-4:], ["waits", "done", "done", "done"])

    def test_a_ring_of_two_and_the_largest(self):
        book = ["ask 0 0", "ask 1 1", "ask 1 0", "ask 0 1", "lose 1"] + ["carry 0"] * 6
        self.assert_last((2, 2, 2), book, "1,0")
        book = [f"ask {agent} {agent}" for agent in range(8)]
        book += [f"ask {agent} {(agent + 1) % 8}" for agent in range(8)] + ["lose 0"] * 7
        self.assert_last((8, 12, 4), book + ["carry 0"] * 24, "7,0,1,2,3,4,5,6")

    def test_the_hall_stands_as_the_deeds_left_it_and_goes_on(self):
        hall = played(3, 3, 2, RING + ["carry 0", "stop 1"])[1]
        same = Hall(3, 3, 2)
        for text in RING:
            word, *numbers = text.split()
            getattr(same, word)(*map(int, numbers))
        same.carry(0)
        same.stop(1)
        self.assertEqual(all_of(hall), all_of(same))
        hall.rise(1)
        self.assertIsNone(hall.carry(0))


class Refusals(BookCase):
    """[13]: the class's name for what is refused."""

    def test_each_kind(self):
        for book, expected in (
            (["ask 3 0"], "NoAgent"), (["give 3 0"], "NoAgent"), (["ask 3 9"], "NoAgent"),
            (["ask 0 4"], "NoLock"), (["give 2 4"], "NoLock"),
            (["stop 2"], "NoHouse"), (["rise 2"], "NoHouse"),
            (["carry 0"], "NoLetter"), (["lose 0"], "NoLetter"), (["double 0"], "NoLetter"),
            (["stop 0", "ask 0 1"], "Stopped"), (["stop 0", "ask 1 0"], "Stopped"),
            (["ask 1 0", "stop 0", "give 1 0"], "Stopped"), (["stop 1", "stop 1"], "Stopped"),
            (["ask 0 0", "ask 1 0", "ask 1 1"], "Waits"),
            (["ask 0 0", "ask 1 0", "give 1 1"], "Waits"),
            (["ask 0 0", "ask 0 0"], "Holds"),
            (["give 0 0"], "NotHeld"), (["ask 1 0", "give 0 0"], "NotHeld"),
            (["rise 0"], "Up"), (["stop 0", "rise 1"], "Up"),
        ):
            self.assert_last((3, 4, 2), book, expected)

    def test_what_is_refused_changes_nothing_and_the_next_deeds_are_done(self):
        book = ["ask 0 0", "ask 0 0", "nothing", "ask 1 0", "give 1 0", "give 0 0", "give 1 0"]
        answers, hall = played(2, 1, 1, book)
        self.assertEqual(answers, [
            "holds", "Holds", "BadDeed", "waits", "Waits", "1", "free",
        ])
        self.assertEqual(hall.table().hold_number(0), 2)

    def test_numbers_of_thirty_figures_are_read(self):
        for most in ("9" * 30, "1" + "0" * 29):
            for text, expected in (
                (f"ask {most} 0", "NoAgent"), (f"ask 0 {most}", "NoLock"),
                (f"give {most} {most}", "NoAgent"), (f"give 0 {most}", "NoLock"),
                (f"carry {most}", "NoLetter"), (f"lose {most}", "NoLetter"),
                (f"double {most}", "NoLetter"), (f"stop {most}", "NoHouse"),
                (f"rise {most}", "NoHouse"),
            ):
                self.assert_last((2, 2, 2), [text], expected)

    def test_numbers_of_two_figures_are_read(self):
        self.assertEqual(answers_of((8, 12, 4), "ask 7 11", "ask 7 10", "ask 7 12", "ask 10 0"),
                         ["holds", "holds", "NoLock", "NoAgent"])
        book = ["ask 0 0", "ask 1 0"] + ["double 0"] * 10 + ["carry 10", "carry 11", "carry 10"]
        self.assertEqual(answers_of((2, 1, 1), *book)[-3:], ["done", "NoLetter", "done"])


class BadDeeds(BookCase):
    """[13]: what is no deed."""

    def assert_bad(self, *texts):
        ahead = ["ask 0 0", "ask 1 0"]
        stands = all_of(played(2, 2, 2, ahead)[1])
        for text in texts:
            with self.subTest(text=text):
                answers, hall = played(2, 2, 2, [*ahead, text])
                self.assertEqual(answers, ["holds", "waits", "BadDeed"])
                self.assertEqual(all_of(hall), stands)

    def test_the_empty_text_and_blanks(self):
        self.assert_bad("", " ", "  ", "   ")

    def test_two_blanks(self):
        self.assert_bad("ask  0 1", "ask 0  1", "give  0 0", "carry  0", "stop  0", "double  0")

    def test_a_blank_ahead_or_behind(self):
        self.assert_bad(" again", "again ", " ask 0 1", "ask 0 1 ", " carry 0", "carry 0 ",
                        "lose 0 ", " lose 0", "stop 0 ", " stop 0", "double 0 ", "rise 0 ")

    def test_a_needless_0(self):
        self.assert_bad("ask 00 1", "ask 0 01", "give 0 00", "carry 00", "lose 00", "double 00",
                        "stop 01", "rise 01", "carry 000", "carry " + "0" * 30)

    def test_a_sign_ahead_of_a_number(self):
        self.assert_bad("ask +0 1", "ask 0 -1", "ask 0 +1", "ask -0 1", "give -0 0", "carry +0",
                        "carry -0", "carry -1", "lose +0", "double -1", "stop +1", "stop -1")

    def test_an_underline_or_another_sign_in_a_number(self):
        self.assert_bad("ask 0_0 1", "ask 0 1_0", "carry 1_0", "carry _0", "carry 0_", "stop 1.",
                        "stop 1.0", "carry 0x0", "carry 1e0", "carry 0,", "ask 0,1", "ask 0,0 1")

    def test_more_than_thirty_figures(self):
        for more in ("9" * 31, "1" + "0" * 30, "0" * 31, "0" * 30 + "1", "1" * 190):
            self.assert_bad(f"ask {more} 1", f"ask 0 {more}", f"give 0 {more}", f"carry {more}",
                            f"lose {more}", f"double {more}", f"stop {more}", f"rise {more}")

    def test_an_odd_word(self):
        self.assert_bad("leave 0", "take 0 1", "told", "road", "table", "nothing", "0", "0 0",
                        "ask0 1", "askk 0 1", "as 0 1", "stopp 0", "a 0 1", "BadDeed", "agains",
                        "~", "is_up 0", "__init__ 0")

    def test_a_word_for_a_number(self):
        self.assert_bad("ask a 1", "ask 0 b", "give 0 zero", "carry one", "lose x", "stop a1",
                        "stop 1a", "ask AGENT LOCK", "carry NUMBER", "stop HOUSE")

    def test_other_letters(self):
        self.assert_bad("Ask 0 1", "ASK 0 1", "Give 0 0", "Again", "AGAIN", "Carry 0", "LOSE 0",
                        "Double 0", "sTop 1", "RISE 1")

    def test_a_word_too_few(self):
        self.assert_bad("ask", "ask 0", "give", "give 0", "carry", "lose", "double", "stop", "rise")

    def test_a_word_too_many(self):
        self.assert_bad("ask 0 1 1", "give 0 0 0", "again 0", "again again", "carry 0 0",
                        "lose 0 0", "double 0 0", "stop 1 0", "rise 1 1", "ask 0 1 x")

    def test_other_signs_between_and_behind(self):
        self.assert_bad("ask\t0 1", "ask 0\t1", "ask 0 1\n", "again\n", "\nagain", "carry 0\n",
                        "ask-0-1", "ask,0,1", "ask(0 1)", "carry 0;", "# again")

    def test_figures_of_other_scripts(self):
        self.assert_bad("carry \u0660", "ask \u0660 1", "carry \u00b2", "stop \uff11")


class NoHalls(BookCase):
    """[2], [13]: counts."""

    def test_wrong_counts(self):
        for place, word in enumerate(("agents", "locks", "houses")):
            for wrong in NO_COUNTS[word]:
                counts = [2, 2, 2]
                counts[place] = wrong
                for book in ([], ["ask 0 0"], ["nothing"]):
                    with self.subTest(counts=counts), self.assertRaises(NoHall) as caught:
                        played(*counts, book)
                    self.assertEqual(type(caught.exception), NoHall)

    def test_the_limits(self):
        for counts in ((1, 1, 1), (8, 12, 4)):
            self.assertEqual(played(*counts, ["again"])[0], ["done"])


class Handed(BookCase):
    """[1]: nothing that is handed in is changed or kept."""

    def test_the_book_stays_as_it_was_and_may_be_changed(self):
        book = RING + ["carry 0"] * 3 + ["", "nothing"]
        ahead = list(book)
        answers, hall = played(3, 3, 3, book)
        self.assertEqual(book, ahead)
        told, stands = list(answers), all_of(hall)
        book.clear()
        book.append("again")
        self.assertEqual((answers, all_of(hall)), (told, stands))

    def test_the_answers_may_be_changed(self):
        book = ["ask 0 0", "ask 1 0"]
        answers, hall = played(2, 2, 2, book)
        stands = all_of(hall)
        answers.clear()
        self.assertEqual((book, all_of(hall)), (["ask 0 0", "ask 1 0"], stands))
        self.assertEqual(played(2, 2, 2, book)[0], ["holds", "waits"])

    def test_two_plays_have_nothing_in_common(self):
        first, second = played(2, 2, 2, ["ask 0 0"]), played(2, 2, 2, ["ask 0 0"])
        stands = all_of(second[1])
        first[1].ask(1, 0)
        first[1].stop(0)
        first[0].append("more")
        self.assertEqual((second[0], all_of(second[1])), (["holds"], stands))


class Walks(BookCase):
    """[13]: long books, beside a plain telling."""

    def expected(self, plain, deed):
        many = len(plain.tellings), len(plain.breakings)
        told = getattr(plain, deed[0])(*deed[1:])
        if isinstance(told, type):
            return told.__name__
        if deed[0] == "ask":
            return {True: "holds", False: "waits"}[told]
        if deed[0] == "give":
            return "free" if told is None else f"{told}"
        if len(plain.tellings) > many[0]:
            return ",".join(f"{agent}" for agent, wait, weight in plain.tellings[-1][0])
        return "broken" if len(plain.breakings) > many[1] else "done"

    def test_long_books(self):
        met = set()
        for size in SIZES:
            reckoning, plain, book, answers = Reckoning(sum(size) + 1), PlainHall(*size), [], []
            deeds = first_of(size)
            for at in range(3000):
                deed = deeds[at] if at < len(deeds) else drawn(reckoning, size, len(plain.letters), at)
                book.append(" ".join(map(str, deed)))
                answers.append(self.expected(plain, deed))
            told, hall = played(*size, book)
            self.assertEqual(told, answers)
            self.assertEqual(all_of(hall), plain.all_of())
            met.update(answers)
        # So that the books are known to have met answers of each kind.
        self.assertLessEqual({
            "holds", "waits", "free", "0", "1", "done", "broken", "1,0", "2,1", "NoAgent",
            "NoLock", "NoHouse", "NoLetter", "Stopped", "Waits", "Holds", "NotHeld", "Up",
        }, met)


if __name__ == "__main__":
    unittest.main()
