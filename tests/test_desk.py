"""Points 34 and 35: the desk."""

import itertools
import random
import unittest

from calmword.countings import counting_holds
from calmword.deeds import calm, deeds
from calmword.desk import Desk
from calmword.errors import BadLetters, BadRoom, BadRow, BadText, NoLetter, NoName, NoRow, NotCalm, NotClosed
from calmword.errors import OtherLetters, TooLong, TooMany
from calmword.expressiontexts import read_expression, show_expression
from calmword.firsts import first_texts
from calmword.held import parted
from calmword.machinetexts import show_machine
from calmword.made import machine_of
from calmword.saymade import saying_machine
from calmword.sayings_of import saying_of
from calmword.sayingtexts import read_saying, show_saying
from calmsamples import drawn_machines
from samples import ENDS_AB, EVEN_A, EVERY, JUST_2000, JUST_2001, NONE, VERY_MANY, least_plainly, made_machines
from samples import read_plainly, ring, texts_to
from saysamples import OVER_400, closed_sayings
from tellings import NINE_BEHIND, made_expressions


def machine_row(machine):
    return show_machine(machine).replace("\n", "/")


def filled():
    """A desk that keeps one thing of each sort, and some that are refused as they are made."""
    desk = Desk("ab")
    for row in ("machine even " + machine_row(EVEN_A), "machine ends " + machine_row(ENDS_AB), "expression ab -0ab",
                "saying each each x x is a", "machine every " + machine_row(EVERY), "machine none " + machine_row(NONE),
                "machine very " + machine_row(VERY_MANY), "expression nine " + show_expression(NINE_BEHIND),
                "saying over " + show_saying(OVER_400)):
        assert desk.say(row) == "ok"
    return desk


class Case(unittest.TestCase):
    def refused(self, desk, error, row):
        """The refusal, each time; nothing of what the desk answers is changed by it."""
        before = answers(desk)
        for _ in range(2):
            with self.assertRaises(error, msg=row) as caught:
                desk.say(row)
            self.assertIs(type(caught.exception), error, row)
        self.assertEqual(answers(desk), before)
        return caught.exception


def answers(desk):
    """What is kept under each name, as far as it is told."""
    found = {}
    for name in ("even", "ends", "ab", "each", "every", "nine", "new", "x", "a"):
        try:
            found[name] = desk.say("show " + name)
        except NoName:
            found[name] = None
    return found


class Rows(Case):
    def test_each_row_for_each_sort_of_thing(self):
        desk = filled()
        for row, answer in (
                ("show even", "machine ab/0 yes 1 0/1 no 0 1"), ("show ab", "-0ab"), ("show each", "each x x is a"),
                ("lets even aba", "yes"), ("lets even a", "no"), ("lets even ", "yes"), ("lets ab aab", "yes"),
                ("lets ab ", "no"), ("lets ab aba", "no"), ("lets each aa", "yes"), ("lets each ", "yes"),
                ("lets each ab", "no"), ("first even 5", ". b aa bb aab"), ("first even 1", "."),
                ("first ab 3", "ab aab bab"), ("first each 9", ". a aa aaa aaaa aaaaa aaaaaa aaaaaaa aaaaaaaa"),
                ("first none 1", "none"), ("first none 9", "none"), ("first every 4", ". a b aa"), ("size even", "2 2"),
                ("size ab", "3 5"), ("size each", "2 2"), ("size every", "1 1"), ("part even even", "alike 2"),
                ("part ends ab", "alike 3"), ("part ab ends", "alike 3"), ("part even ab", "on ."),
                ("part ab each", "on ."), ("part each every", "on b"), ("part none ab", "on ab"),
                ("part each each", "alike 2"), ("told ends", "calm"), ("told ab", "calm"), ("told each", "calm"),
                ("told none", "calm")):
            self.assertEqual(desk.say(row), answer, row)

    def test_all_of_them_where_there_are_fewer(self):
        desk = Desk("ba")
        desk.say("expression few .|ab|b")
        self.assertEqual(desk.say("first few 9"), ". b ab")
        self.assertEqual(desk.say("first few 3"), ". b ab")
        self.assertEqual(desk.say("first few 2"), ". b")

    def test_told_of_what_counts(self):
        for machine in [EVEN_A, ring(7, (1, 2), "ab")] + drawn_machines(240, 15, 3, "ab", False):
            desk = Desk("ab")
            desk.say("machine m " + machine_row(machine))
            words = desk.say("told m").split(" ")
            self.assertEqual(words[0], "counting")
            texts = ["" if word == "." else word for word in words[1:4]]
            self.assertLessEqual(set("".join(texts)), set("ab"))
            self.assertEqual(words[4], str(int(words[4])))
            self.assertLessEqual(set(words[5:]), {"yes", "no"})
            rest = tuple(word == "yes" for word in words[5:])
            self.assertIs(counting_holds(machine, (texts[0], texts[1], texts[2], int(words[4]), rest)), True)

    def test_drawn_things(self):
        chance = random.Random(241)
        for letters in ("a", "ba", "cab"):
            desk = Desk(letters)
            things = {}
            for number, machine in enumerate(made_machines(242, 5, 4, (letters,))):
                things["m" + "abcde"[number]] = ("machine", machine)
            for number, (_, expression) in enumerate(made_expressions(243, 5, 8, (letters,))):
                things["e" + "abcde"[number]] = ("expression", read_expression(show_expression(expression)))
            for number, saying in enumerate(closed_sayings(244, 5, letters)):
                things["s" + "abcde"[number]] = ("saying", read_saying(show_saying(saying)))
            for name, (sort, thing) in things.items():
                text = {"machine": machine_row, "expression": show_expression, "saying": show_saying}[sort](thing)
                self.assertEqual(desk.say(f"{sort} {name} {text}"), "ok")
            for name, thing in things.items():
                self.holds_to_its_thing(desk, letters, name, thing)
                other = chance.choice(list(things))
                sort, found = parted(letters, thing, things[other])
                self.assertEqual(desk.say(f"part {name} {other}"),
                                 f"alike {len(found)}" if sort == "alike" else f"on {found or '.'}")

    def holds_to_its_thing(self, desk, letters, name, thing):
        sort, inner = thing
        shows = {"machine": machine_row, "expression": show_expression, "saying": show_saying}
        self.assertEqual(desk.say("show " + name), shows[sort](inner))
        machine = {"machine": least_plainly, "expression": lambda inner: machine_of(letters, inner),
                   "saying": lambda inner: saying_machine(letters, inner)}[sort](inner)
        for text in texts_to(letters, 3) + [letters * 20]:
            self.assertEqual(desk.say(f"lets {name} {text}"), "yes" if read_plainly(machine, text) else "no")
        for many in (1, 4, 9):
            texts = [text or "." for text in first_texts(machine, many)]
            self.assertEqual(desk.say(f"first {name} {many}"), " ".join(texts) or "none")
        self.assertEqual(desk.say("size " + name), f"{len(machine[1])} {len(deeds(machine))}")
        self.assertEqual(desk.say("told " + name).split(" ")[0], "calm" if calm(machine) else "counting")

    def test_express_and_say(self):
        desk = filled()
        for source, sort in itertools.product(("ends", "ab", "each", "every", "none"), ("express", "say")):
            self.assertEqual(desk.say(f"{sort} new {source}"), "ok")
            self.assertEqual(desk.say(f"part new {source}").split(" ")[0], "alike")
            text = desk.say("show new")
            if sort == "express":
                read_expression(text)
            else:
                read_saying(text)
            self.assertEqual(desk.say("told new"), "calm")

    def test_that_very_thing(self):
        desk = Desk("ab")
        for text in ("-0ab", "a|a", "--(a|b)&-.", "0"):
            desk.say("expression e " + text)
            self.assertEqual(desk.say("express new e"), "ok")
            self.assertEqual(desk.say("show new"), text)
        for text in ("some x yes", "(each x x is a and each x x is a)", "not not yes"):
            desk.say("saying s " + text)
            self.assertEqual(desk.say("say new s"), "ok")
            self.assertEqual(desk.say("show new"), text)
        desk.say("expression e -0ab")
        desk.say("say s e")
        self.assertEqual(desk.say("show s"), show_saying(saying_of("ab", read_expression("-0ab"))))

    def test_a_name_kept_anew(self):
        desk = Desk("ab")
        for row, shown in (("machine x " + machine_row(EVEN_A), machine_row(EVEN_A)), ("expression x a|b", "a|b"),
                           ("saying x yes", "yes"), ("machine x " + machine_row(NONE), machine_row(NONE)),
                           ("expression x .", ".")):
            self.assertEqual(desk.say(row), "ok")
            self.assertEqual(desk.say("show x"), shown)
        # Also by what is made of the thing itself.
        desk.say("saying x each x x is b")
        desk.say("express x x")
        self.assertEqual(desk.say("first x 3"), ". b bb")
        desk.say("say x x")
        self.assertEqual(desk.say("first x 3"), ". b bb")
        read_saying(desk.say("show x"))

    def test_a_thing_made_of_another_stays(self):
        desk = Desk("ab")
        desk.say("machine m " + machine_row(ENDS_AB))
        for row in ("express e m", "say s m", "express f e", "say t s"):
            desk.say(row)
        before = [desk.say("show " + name) for name in "esft"]
        desk.say("expression m ba")
        desk.say("expression e aa")
        desk.say("saying s yes")
        self.assertEqual([desk.say("show " + name) for name in "ft"], before[2:])
        self.assertEqual(desk.say("first f 2"), "ab aab")
        self.assertEqual(desk.say("first t 2"), "ab aab")

    def test_two_desks(self):
        one, other = Desk("ab"), Desk("ab")
        one.say("expression x a")
        with self.assertRaises(NoName):
            other.say("show x")
        other.say("expression x b")
        self.assertEqual((one.say("show x"), other.say("show x")), ("a", "b"))

    def test_the_same_question_has_the_same_answer(self):
        desk = filled()
        rows = ("show even", "lets ab aab", "first each 3", "size ends", "part ends ab", "told even", "told ab")
        before = [desk.say(row) for row in rows]
        desk.say("express new ends")
        desk.say("say other ends")
        self.refused(desk, NotCalm, "say other even")
        self.assertEqual([desk.say(row) for row in rows], before)
        self.assertEqual([filled().say(row) for row in rows], before)

    def test_machines_are_kept_as_they_are_read(self):
        desk = Desk("a")
        text = "machine a/0 yes 1/1 yes 0/2 no 2"
        desk.say("machine m " + text)
        self.assertEqual(desk.say("show m"), text)
        self.assertEqual(desk.say("size m"), "1 1")
        self.assertEqual(desk.say("part m m"), "alike 1")
        self.assertEqual(desk.say("told m"), "calm")

    def test_names(self):
        desk = Desk("ab")
        for name in ("a", "z", "abcdefgh", "yes", "is", "not", "machine", "show", "some", "first"):
            self.assertEqual(desk.say(f"expression {name} ab"), "ok")
            self.assertEqual(desk.say(f"show {name}"), "ab")

    def test_blanks_in_texts(self):
        desk = Desk("ab")
        self.assertEqual(desk.say("saying s   some x(x is a and yes )  "), "ok")
        self.assertEqual(desk.say("show s"), "some x (x is a and yes)")

    def test_answers_are_texts(self):
        desk = filled()
        for row in ("show even", "lets ab a", "first ab 1", "size ab", "part ab ends", "told ab", "express new ab"):
            self.assertIs(type(desk.say(row)), str)


class NoRows(Case):
    def test_what_is_no_row(self):
        desk = filled()
        for row in ("", " ", "  ", "bread even", "Show even", "SHOW even", "show", "show even ends", "show even ",
                    " show even", "show  even", "show\neven", "machine", "machine new", "expression",
                    "expression new", "saying", "saying new", "lets", "lets even", "first", "first even", "first even ",
                    "first even 0", "first even 10", "first even 01", "first even -1", "first even x", "first even 1 ",
                    "first even  1", "first even 1 2", "first even 11", "first even 1.", "first even +1", "size",
                    "size even ends", "part", "part even", "part even ends ab", "part even ends ", "part even  ends",
                    "told", "told even ends", "told  even", "express", "express new", "express new even ends",
                    "express new ends ", "say", "say new", "say new ends ends", "say  new ends", "tells even", "ok",
                    "machine\tnew", "even", "showeven", "letseven a", "keep even"):
            self.refused(desk, NoRow, row)

    def test_what_is_no_text(self):
        desk = filled()
        for row in (None, 0, 5, -1, (), ("show", "even"), ["show", "even"], True, False, {"show": "even"}, 1.5):
            self.refused(desk, NoRow, row)

    def test_no_row_goes_first(self):
        desk = filled()
        for row in ("first nowhere 0", "first NO 10", "show nowhere NO", "part nowhere", "lets nowhere", "first  0",
                    "machine NO", "express NO", "size NO NO"):
            self.refused(desk, NoRow, row)


class NoNames(Case):
    def test_names_that_are_none(self):
        desk = filled()
        for name in ("", "Even", "e1", "abcdefghi", "even.", "EVEN", "e-n", "a_b", "\n", "even\n", "1", "("):
            for row in ("show ", "size ", "told "):
                self.assertEqual(self.refused(desk, NoName, row + name).name, name)
            for row in (f"lets {name} a", f"lets {name} ", f"first {name} 1", f"machine {name} {machine_row(EVEN_A)}",
                        f"expression {name} a", f"saying {name} yes", f"part {name} even", f"part even {name}",
                        f"express {name} ends", f"express new {name}", f"say {name} ends", f"say new {name}"):
                self.assertEqual(self.refused(desk, NoName, row).name, name, row)

    def test_names_by_which_nothing_is_kept(self):
        desk = filled()
        for row in ("show nowhere", "lets nowhere a", "lets nowhere ", "first nowhere 1", "size nowhere",
                    "part nowhere even", "part even nowhere", "told nowhere", "express new nowhere", "say new nowhere",
                    "express nowhere nowhere"):
            self.assertEqual(self.refused(desk, NoName, row).name, "nowhere")
        self.assertEqual(self.refused(Desk("ab"), NoName, "show a").name, "a")

    def test_from_the_left(self):
        desk = filled()
        for row, name in (("part nowhere NO", "nowhere"), ("part NO nowhere", "NO"), ("part even NO", "NO"),
                          ("part one two", "one"), ("express NO nowhere", "NO"), ("say nowhere NO", "NO"),
                          ("say NO NO", "NO"), ("express new two", "two"), ("part  even", ""), ("part even ", ""),
                          ("express  even", ""), ("say even ", ""), ("machine  ", ""), ("lets  a", ""), ("show ", "")):
            self.assertEqual(self.refused(desk, NoName, row).name, name, row)

    def test_a_word_without_signs_is_a_name_that_is_none(self):
        desk = filled()
        for row in ("lets  even a", "machine  new " + machine_row(EVEN_A), "saying  s yes", "expression  a"):
            self.assertEqual(self.refused(desk, NoName, row).name, "")

    def test_no_name_goes_ahead_of_reading(self):
        desk = filled()
        for row, name in (("machine NO bad", "NO"), ("expression NO (", "NO"), ("saying NO x is", "NO"),
                          ("lets nowhere c", "nowhere"), ("express NO even", "NO"), ("say NO even", "NO"),
                          ("part nine nowhere", "nowhere"), ("machine NO machine ba/0 yes 0 0", "NO")):
            self.assertEqual(self.refused(desk, NoName, row).name, name)


class Reading(Case):
    def test_machines(self):
        desk = filled()
        for text, at in (("", 0), ("machine ab", 1), ("machine", 0), ("machine aa/0 yes 0 0", 0), ("0 yes 0 0", 0),
                         ("machine ab/0 yes 0", 1), ("machine ab/0 yes 0 0/", 2), ("machine ab//0 yes 0 0", 1),
                         ("machine ab/0 yes 0 0/2 no 0 0", 2), ("machine ab /0 yes 0 0", 0),
                         (" machine ab/0 yes 0 0", 0), ("machine ab/0 yes 0 0 ", 1), ("machine ab/0 maybe 0 0", 1),
                         ("/", 0)):
            self.assertEqual(self.refused(desk, BadText, "machine new " + text).at, at, text)
        self.assertEqual(self.refused(desk, BadRoom, "machine new machine ab/0 yes 0 1").room, 0)
        self.assertEqual(self.refused(desk, BadRoom, "machine new machine ab/0 yes 0 1/1 no 0 7").room, 1)

    def test_other_letters(self):
        desk = filled()
        for text in ("machine ba/0 yes 0 0", "machine a/0 yes 0", "machine abc/0 yes 0 0 0", "machine cd/0 no 0 0"):
            self.refused(desk, OtherLetters, "machine new " + text)
        # What reading refuses and looking goes ahead of that.
        self.assertEqual(self.refused(desk, BadText, "machine new machine ba/0 yes 0").at, 1)
        self.assertEqual(self.refused(desk, BadRoom, "machine new machine ba/0 yes 0 1").room, 0)

    def test_expressions(self):
        desk = filled()
        for text, at in (("", 0), ("a b", 1), ("(a", 2), ("a|", 2), ("A", 0), (" a", 0), ("a ", 1), ("a/b", 1)):
            self.assertEqual(self.refused(desk, BadText, "expression new " + text).at, at)
        for text, at in (("c", 0), ("ac", 1), ("aab|cb", 4), ("-0z", 2), ("abc)", None), ("a|a|q", 2)):
            if at is None:
                self.assertEqual(self.refused(desk, BadText, "expression new " + text).at, 3)
            else:
                self.assertEqual(self.refused(desk, BadRow, "expression new " + text).at, at, text)

    def test_sayings(self):
        desk = filled()
        for text, at in (("", 0), ("   ", 0), ("x is", 2), ("yes yes", 1), ("(yes and yes", 4), ("some x", 2),
                         ("x<y", 0), ("x is ab", 2), ("yes/no", 0)):
            self.assertEqual(self.refused(desk, BadText, "saying new " + text).at, at)
        for text, at in (("some x x is c", 0), ("(yes and some x x is z)", 1), ("x is c", 0),
                         ("some x some y some z some u (x < y and z < u)", 2), ("(x < y or z is c)", 1),
                         ("some x (x is a or (yes and x is q))", 2)):
            self.assertEqual(self.refused(desk, BadRow, "saying new " + text).at, at, text)
        for text, names in (("x is a", ("x",)), ("some x x < y", ("y",)), ("(z < y and each x x < y)", ("y", "z")),
                            ("(x < y and z is a)", ("x", "y", "z"))):
            self.assertEqual(self.refused(desk, NotClosed, "saying new " + text).names, names)

    def test_lets(self):
        desk = filled()
        for name in ("even", "ab", "each", "nine", "over", "very"):
            for text, at in (("c", 0), ("abc", 2), ("a b", 1), (" ", 0), ("ab ", 2), (" ab", 0), ("aA", 1), (".", 0),
                             ("a\nb", 1)):
                # Ahead of what making refuses.
                self.assertEqual(self.refused(desk, NoLetter, f"lets {name} {text}").at, at)


class Making(Case):
    def test_too_many(self):
        desk = filled()
        for row in ("lets nine a", "first nine 1", "size nine", "told nine", "part nine even", "part even nine",
                    "part nine over", "part nine nine"):
            self.assertEqual(self.refused(desk, TooMany, row).at, 12, row)
        last = len(read_saying(show_saying(OVER_400))) - 1
        for row in ("lets over a", "first over 1", "size over", "told over", "part over even", "part even over",
                    "part over nine", "express new over"):
            self.assertEqual(self.refused(desk, TooMany, row).at, last, row)
        for row in ("size very", "told very", "express new very", "say new very"):
            self.assertEqual(self.refused(desk, TooMany, row).at, 0, row)
        self.assertEqual(desk.say("show nine"), show_expression(NINE_BEHIND))
        self.assertEqual(desk.say("lets very "), "yes")
        self.assertEqual(desk.say("first very 2"), ". ab")

    def test_what_is_that_very_thing_is_not_made(self):
        desk = filled()
        for row in ("express new nine", "say other nine", "say same over"):
            self.assertEqual(desk.say(row), "ok")
        self.assertEqual(desk.say("show new"), desk.say("show nine"))
        self.assertEqual(desk.say("show same"), desk.say("show over"))

    def test_two_thousand_deeds(self):
        desk = Desk("abc")
        desk.say("machine m " + machine_row(JUST_2000))
        self.assertEqual(desk.say("size m"), f"{len(least_plainly(JUST_2000)[1])} 2000")
        self.assertEqual(desk.say("told m"), "calm")
        desk = Desk("abcd")
        desk.say("machine m " + machine_row(JUST_2001))
        self.assertEqual(self.refused(desk, TooMany, "size m").at, 0)
        self.assertEqual(self.refused(desk, TooMany, "told m").at, 0)

    def test_not_calm(self):
        desk = filled()
        self.refused(desk, NotCalm, "express new even")
        self.refused(desk, NotCalm, "say new even")
        # What is kept by that name stays.
        self.refused(desk, NotCalm, "express ab even")
        self.refused(desk, NotCalm, "say ab even")
        self.assertEqual(desk.say("show ab"), "-0ab")

    def test_too_long(self):
        desk = Desk("ab")
        # Each step names the one ahead twice: a saying of few rows, the text of which is without measure.
        desk.say("expression e " + "-(a|b)" * 30)
        desk.say("say s e")
        with self.assertRaises(TooLong):
            desk.say("show s")
        self.assertEqual(desk.say("show e"), "-(a|b)" * 30)
        with self.assertRaises(TooLong):
            desk.say("show s")
        self.assertEqual(desk.say("say t s"), "ok")

    def test_of_two_faults_the_one_told_ahead(self):
        desk = filled()
        for row, error in (("first nine 0", NoRow), ("lets nine c", NoLetter), ("part nine nowhere", NoName),
                           ("express NO over", NoName), ("saying new (x is c and x < y)", BadRow),
                           ("saying new x is c d", BadText), ("expression new c(", BadText),
                           ("machine new machine ba/0 yes 9 9", BadRoom), ("say  very", NoName)):
            self.refused(desk, error, row)


class Letters(unittest.TestCase):
    def test_letters_that_are_none(self):
        for letters in ("", "aa", "abcde", "A", "a b", "ab ", "1", "\n", "a\n", "abca"):
            with self.assertRaises(BadLetters) as caught:
                Desk(letters)
            self.assertIs(type(caught.exception), BadLetters)

    def test_letters_that_are_some(self):
        for letters in ("a", "ba", "zyx", "dbca"):
            desk = Desk(letters)
            self.assertEqual(desk.say("expression e " + letters[-1]), "ok")
            self.assertEqual(desk.say("first e 2"), letters[-1])


if __name__ == "__main__":
    unittest.main()
