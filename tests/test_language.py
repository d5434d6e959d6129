"""Tests of readingsall.language: grammars as lines (points 26 and 27)."""

import random
import unittest
from itertools import permutations

from helpers import NO_NAMES, content, make
from plain import some_grammar
from plain_readings import some_language
from readingsall.errors import BadLine
from readingsall.grammar import Grammar
from readingsall.language import read_grammar, same_grammar, write_grammar

ALL = [
    "attribute num sg pl",
    "attribute case nom acc dat",
    "attribute g m",
    "category s",
    "category np case num",
    "category n num",
    "category all g case num",
    "start s",
    "first begin",
    "arc begin noun stem",
    "arc stem noun stem",
    "arc begin verb whole",
    "end stem np",
    "end stem n",
    "end whole s",
    "seam y s ies",
    "seam ab bcd =",
    "seam a a abcdefgh",
    "morph city noun 0 city",
    "morph s number 7 = num=pl",
    "morph bcdefg verb 1000 G.g-1 case=acc num=sg g=m",
    "morph x x 10 =",
    "rule 0 s -> np nom pl :",
    "rule 5 np ?c * -> n ?n : $1",
    "rule 1000 s -> n ?n + all m * ?n + s + s : $4 of $1 . - $2 $1 DO",
]


def grammar():
    return make(
        [("num", ("sg", "pl")), ("case", ("nom", "acc", "dat")), ("g", ("m",))],
        [("s", ()), ("np", ("case", "num")), ("n", ("num",)), ("all", ("g", "case", "num"))],
        [(("s", ()), (("np", ("nom", "pl")),), 0, ()), (("np", ("?c", "*")), (("n", ("?n",)),), 5, (1,)),
         (("s", ()), (("n", ("?n",)), ("all", ("m", "*", "?n")), ("s", ()), ("s", ())), 1000, (4, "of", 1, ".", "-", 2, 1, "DO"))],
        [("city", "noun", (), 0, "city"), ("s", "number", (("num", "pl"),), 7, ""),
         ("bcdefg", "verb", (("case", "acc"), ("num", "sg"), ("g", "m")), 1000, "G.g-1"), ("x", "x", (), 10, "")],
        [("begin", "noun", "stem"), ("stem", "noun", "stem"), ("begin", "verb", "whole")],
        [("stem", "np"), ("stem", "n"), ("whole", "s")],
        [("y", "s", "ies"), ("ab", "bcd", ""), ("a", "a", "abcdefgh")], "s", "begin")


class LinesTest(unittest.TestCase):
    def check(self, given, lines):
        """Check that the lines are the written form of the grammar, and that the grammar is theirs."""
        with self.subTest(lines=lines):
            kept = content(given)
            found = write_grammar(given)
            self.assertEqual(found, lines)
            self.assertIs(type(found), list)
            self.assertEqual(content(given), kept)
            self.assertEqual(content(self.read(lines)), kept)

    def read(self, lines):
        kept = list(lines)
        found = read_grammar(lines)
        self.assertEqual(lines, kept)
        self.assertIs(type(found), Grammar)
        return found

    def refuse(self, lines, index):
        with self.subTest(lines=lines):
            kept = list(lines)
            with self.assertRaises(BadLine) as held:
                read_grammar(lines)
            self.assertIs(type(held.exception), BadLine)
            self.assertEqual(held.exception.line, index)
            self.assertEqual(lines, kept)


class WriteGrammar(LinesTest):
    def test_a_grammar_that_has_nothing(self):
        self.check(Grammar(), [])

    def test_all_kinds_of_lines_in_their_order(self):
        self.check(grammar(), ALL)

    def test_each_kind_of_line_alone(self):
        given = make([("num", ("pl", "sg"))])
        self.check(given, ["attribute num pl sg"])
        self.check(make([], [("s", ())]), ["category s"])
        self.check(make([], [("s", ())], start="s"), ["category s", "start s"])
        self.check(make(first="q"), ["first q"])
        self.check(make(arcs=[("q", "k", "q")]), ["arc q k q"])
        self.check(make([], [("s", ())], ends=[("q", "s")]), ["category s", "end q s"])
        self.check(make(seams=[("a", "b", "c")]), ["seam a b c"])
        self.check(make(morphs=[("a", "k", (), 0, "")]), ["morph a k 0 ="])
        self.check(make([], [("s", ())], [(("s", ()), (("s", ()), ("s", ())), 3, ())]), ["category s", "rule 3 s -> s + s :"])

    def test_the_order_within_a_kind_is_that_in_which_they_were_added(self):
        given = make([("z", ("b", "a")), ("a", ("z",)), ("m", ("c",))], [("z", ("m", "a", "z")), ("a", ()), ("m", ("z", "a"))],
                     [(("z", ("*", "*", "*")), (("a", ()),), 9, ()), (("a", ()), (("m", ("b", "z")),), 1, ())],
                     [("zz", "k", (), 5, ""), ("aa", "k", (), 1, "")], [("z", "b", "c"), ("a", "b", "c"), ("a", "a", "c")],
                     [("z", "z"), ("a", "z"), ("a", "a")], [("z", "b", "c"), ("a", "b", "c")], "z", "z")
        self.check(given, [
            "attribute z b a", "attribute a z", "attribute m c", "category z m a z", "category a", "category m z a", "start z",
            "first z", "arc z b c", "arc a b c", "arc a a c", "end z z", "end a z", "end a a", "seam z b c", "seam a b c",
            "morph zz k 5 =", "morph aa k 1 =", "rule 9 z * * * -> a :", "rule 1 a -> m b z :"])

    def test_the_order_of_the_kinds_does_not_depend_on_the_calls(self):
        given = Grammar()
        given.set_first("p")
        given.add_morph("a", "k")
        given.add_seam("b", "b", "bb")
        given.add_arc("q", "k", "q")
        given.add_category("s", [])
        given.add_rule(("s", ()), (("s", ()), ("s", ())))
        given.add_end("q", "s")
        given.set_start("s")
        given.add_attribute("num", ["sg"])
        given.add_category("n", ["num"])
        given.add_morph("b", "k", marks=(("num", "sg"),))
        given.set_start("n")
        given.set_first("q")
        self.check(given, ["attribute num sg", "category s", "category n num", "start n", "first q", "arc q k q", "end q s",
                           "seam b b bb", "morph a k 0 =", "morph b k 0 = num=sg", "rule 0 s -> s + s :"])

    def test_empty_joined_and_empty_gloss(self):
        self.check(make(seams=[("ab", "c", "")], morphs=[("a", "k", (), 0, ""), ("a", "k", (), 0, "-")]),
                   ["seam ab c =", "morph a k 0 =", "morph a k 0 -"])

    def test_marks_in_the_order_in_which_they_were_passed(self):
        given = make([("b", ("x", "y")), ("a", ("x",)), ("c", ("z",))], morphs=[
            ("m", "k", marks, 0, "") for marks in permutations((("a", "x"), ("b", "y"), ("c", "z")))])
        self.check(given, ["attribute b x y", "attribute a x", "attribute c z"]
                   + ["morph m k 0 = " + " ".join(f"{name}={value}" for name, value in marks)
                      for marks in permutations((("a", "x"), ("b", "y"), ("c", "z")))])

    def test_gloss_rows(self):
        s = ("s", ())
        for row, items in (((), ""), ((1,), " $1"), ((4, 3, 2, 1), " $4 $3 $2 $1"), (("1", 1), " 1 $1"), (("-", "--", "."), " - -- ."),
                           (("PAST.x-1", 2, 2, "end"), " PAST.x-1 $2 $2 end"), (("a" * 20,), " " + "a" * 20)):
            self.check(make([], [("s", ())], [(s, (s, s, s, s), 0, row)]), ["category s", "rule 0 s -> s + s + s + s :" + items])

    def test_costs(self):
        costs = (0, 1, 9, 10, 99, 100, 999, 1000)
        given = make([], [("s", ())], [(("s", ()), (("s", ()),) * 2, cost, ()) for cost in costs],
                     [("a", "k", (), cost, "") for cost in costs])
        self.check(given, ["category s"] + [f"morph a k {cost} =" for cost in costs]
                   + [f"rule {cost} s -> s + s :" for cost in costs])

    def test_variables_and_any_value(self):
        given = make([("num", ("sg", "pl"))], [("n", ("num",))],
                     [(("n", ("?abc1",)), (("n", ("*",)), ("n", ("sg",)), ("n", ("?abc1",))), 0, ())])
        self.check(given, ["attribute num sg pl", "category n num", "rule 0 n ?abc1 -> n * + n sg + n ?abc1 :"])

    def test_names_that_are_words_at_the_beginnings_of_lines(self):
        words = ["attribute", "category", "start", "first", "arc", "end", "seam", "morph", "rule"]
        given = make([("attribute", words[:6]), ("rule", ("rule",))], [(word, ("rule", "attribute")) for word in words],
                     [(("rule", ("rule", "end")), (("start", ("*", "?rule")), ("morph", ("?end", "first"))), 0, ("rule", 1, "arc"))],
                     [("morph", "morph", (("rule", "rule"), ("attribute", "end")), 0, "seam")],
                     [("arc", "end", "first"), ("rule", "rule", "rule")], [("end", "start"), ("end", "end")],
                     [("seam", "seam", "morph")], "start", "first")
        self.check(given, ["attribute attribute attribute category start first arc end", "attribute rule rule"]
                   + [f"category {word} rule attribute" for word in words]
                   + ["start start", "first first", "arc arc end first", "arc rule rule rule", "end end start", "end end end",
                      "seam seam seam morph", "morph morph morph 0 seam rule=rule attribute=end",
                      "rule 0 rule rule end -> start * ?rule + morph ?end first : rule $1 arc"])

    def test_names_of_all_lengths(self):
        long, short = "a" * 12, "z"
        given = make([(long, (short, "z" * 12))], [(short, (long,))], [], [(long, long, ((long, short),), 0, "")],
                     [(long, short, long)], [(long, short)], [("abcd", "efgh", "abcdefgh")], short, long)
        self.check(given, [f"attribute {long} z {'z' * 12}", f"category z {long}", "start z", f"first {long}",
                           f"arc {long} z {long}", f"end {long} z", "seam abcd efgh abcdefgh", f"morph {long} {long} 0 = {long}=z"])

    def test_the_list_is_a_new_one(self):
        given = grammar()
        write_grammar(given).clear()
        found = write_grammar(given)
        found[0] = "other"
        self.assertEqual(write_grammar(given), ALL)


class SameGrammar(unittest.TestCase):
    def check(self, one, other, wanted):
        with self.subTest(one=write_grammar(one), other=write_grammar(other)):
            kept = (content(one), content(other))
            self.assertIs(same_grammar(one, other), wanted)
            self.assertIs(same_grammar(other, one), wanted)
            self.assertEqual((content(one), content(other)), kept)

    def test_the_same(self):
        self.check(Grammar(), Grammar(), True)
        self.check(grammar(), grammar(), True)
        given = grammar()
        self.check(given, given, True)
        self.check(given, read_grammar(ALL), True)

    def test_another_order_of_the_calls(self):
        lines = [line for line in ALL if line.split()[0] in ("attribute", "category")]
        rest = [line for line in ALL if line not in lines]
        by_kind = {}
        for line in rest:
            by_kind.setdefault(line.split()[0], []).append(line)
        for kinds in list(permutations(by_kind))[::97]:
            self.check(read_grammar(lines + [line for kind in kinds for line in by_kind[kind]]), grammar(), True)

    def test_an_earlier_start_and_first(self):
        given = grammar()
        given.set_start("n")
        self.check(given, grammar(), False)
        given.set_start("s")
        given.set_first("other")
        self.check(given, grammar(), False)
        given.set_first("begin")
        self.check(given, grammar(), True)

    def test_one_line_left_out(self):
        for k, line in enumerate(ALL):
            if line.split()[0] not in ("attribute", "category"):
                self.check(read_grammar(ALL[:k] + ALL[k + 1:]), grammar(), False)
        self.check(read_grammar(ALL[:1]), read_grammar([]), False)
        self.check(read_grammar(ALL + ["attribute more x"]), grammar(), False)
        self.check(read_grammar(ALL + ["category more"]), grammar(), False)

    def test_two_neighbours_in_another_order(self):
        for k in range(len(ALL) - 1):
            one, other = ALL[k], ALL[k + 1]
            exchanged = ALL[:k] + [other, one] + ALL[k + 2:]
            if one.split()[0] == other.split()[0]:
                self.check(read_grammar(exchanged), grammar(), False)

    def test_one_thing_is_another(self):
        changes = [
            ("attribute g m", "attribute g m n"), ("attribute num sg pl", "attribute num pl sg"), ("category np case num", "category np num case"),
            ("category s", "category s g"), ("start s", "start n"), ("first begin", "first stem"), ("arc stem noun stem", "arc stem noun begin"),
            ("arc stem noun stem", "arc stem verb stem"), ("end stem n", "end whole n"), ("end whole s", "end whole n"),
            ("seam y s ies", "seam y s ie"), ("seam y s ies", "seam y t ies"), ("seam ab bcd =", "seam ab bcd a"),
            ("morph city noun 0 city", "morph city noun 1 city"), ("morph city noun 0 city", "morph city noun 0 ="),
            ("morph city noun 0 city", "morph cit noun 0 city"), ("morph city noun 0 city", "morph city verb 0 city"),
            ("morph s number 7 = num=pl", "morph s number 7 = num=sg"), ("morph s number 7 = num=pl", "morph s number 7 ="),
            ("morph bcdefg verb 1000 G.g-1 case=acc num=sg g=m", "morph bcdefg verb 1000 G.g-1 case=acc g=m num=sg"),
            ("rule 5 np ?c * -> n ?n : $1", "rule 5 np ?c * -> n ?n :"), ("rule 5 np ?c * -> n ?n : $1", "rule 5 np ?c * -> n ?m : $1"),
            ("rule 5 np ?c * -> n ?n : $1", "rule 5 np ?c * -> n * : $1"), ("rule 5 np ?c * -> n ?n : $1", "rule 5 np ?c * -> n ?n : 1"),
            ("rule 5 np ?c * -> n ?n : $1", "rule 6 np ?c * -> n ?n : $1"), ("rule 5 np ?c * -> n ?n : $1", "rule 5 np nom * -> n ?n : $1"),
        ]
        for old, new in changes:
            lines = [new if line == old else line for line in ALL]
            if old == "category s":
                lines = [line for line in lines if not line.startswith("rule")]
                self.check(read_grammar(lines), read_grammar([line for line in ALL if not line.startswith("rule")]), False)
            elif "category np" in old:
                lines = [line for line in lines if not line.startswith("rule")]
                self.check(read_grammar(lines), read_grammar([line for line in ALL if not line.startswith("rule")]), False)
            else:
                self.check(read_grammar(lines), grammar(), False)


class ReadGrammar(LinesTest):
    def test_no_lines(self):
        self.assertEqual(content(self.read([])), content(Grammar()))

    def test_all_kinds_of_lines(self):
        self.assertEqual(content(self.read(ALL)), content(grammar()))

    def test_any_order_that_the_calls_allow(self):
        chance = random.Random(91)
        wanted = {kind: [line for line in ALL if line.startswith(kind + " ")] for kind in {line.split()[0] for line in ALL}}
        for _ in range(60):
            waiting, lines, known = list(ALL), [], set()
            while waiting:
                line = chance.choice(waiting)
                # Within a kind the order stays; and a line may come when all that it names is there.
                kind, _, *names = line.split()
                if line == next(one for one in waiting if one.split()[0] == kind) and self.may_come(line, known):
                    waiting.remove(line)
                    lines.append(line)
                    if kind in ("attribute", "category"):
                        known.add((kind, line.split()[1]))
            self.assertEqual(write_grammar(self.read(lines)), ALL)
        self.assertEqual(sum(len(lines) for lines in wanted.values()), len(ALL))

    def may_come(self, line, known):
        kind, *rest = line.split()
        if kind == "category":
            return all(("attribute", name) in known for name in rest[1:])
        if kind == "morph":
            return all(("attribute", mark.split("=")[0]) in known for mark in rest[4:])
        if kind == "rule":
            return {("category", name) for name in ("s", "np", "n", "all")} <= known
        return kind not in ("start", "end") or ("category", rest[-1]) in known

    def test_what_is_not_there_yet(self):
        for k, line in enumerate(ALL):
            if line.split()[0] in ("category", "start", "end", "rule") and line != "category s":
                self.refuse([line], 0)
                self.refuse([line, *ALL], 0)
        self.refuse(["morph s number 7 = num=pl", "attribute num sg pl"], 0)

    def test_a_later_start_or_first(self):
        lines = ["category s", "category t", "start s", "first a", "start t", "first b", "first c", "start s", "start t"]
        self.assertEqual(write_grammar(self.read(lines)), ["category s", "category t", "start t", "first c"])

    def test_blanks_and_no_token(self):
        for k in (0, 3, len(ALL)):
            for bad in ("", " ", "  ", " category x", "category x ", "category  x", "category x  ", " first q", "first q ",
                        "first  q", "morph a k 0  ", "morph a k  =", "seam y b ", "seam ab c  ", "morph a k 0 = ", "morph a k 0",
                        "rule 0 s  -> s + s :", "rule 0 s -> s + s : ", "rule 0 s -> s + s :  x", "arc a b  c"):
                self.refuse(ALL[:k] + [bad] + ALL[k:], k)

    def test_an_unknown_word(self):
        for word in ("categories", "Category", "x", "word", "starts", "1", "=", "->", ":", "#", "attribut", "attributes", "CATEGORY",
                     "rules", "morph=", "~", "readings"):
            for rest in ("", " s", " s t", " a b c", " x y z w"):
                self.refuse([*ALL, word + rest], len(ALL))
                self.refuse([word + rest, *ALL], 0)

    def test_too_many_and_too_few_tokens(self):
        for bad in ("attribute", "category", "start", "start s s", "start s n", "first", "first a b", "arc", "arc a", "arc a b",
                    "arc a b c d", "end", "end stem", "end stem s s", "end a s x", "seam", "seam a", "seam a b", "seam x x xx x",
                    "seam a b c d", "morph", "morph a", "morph a k", "morph a k 0", "rule", "rule 0", "rule 0 s", "rule 0 s ->",
                    "rule 0 s -> s", "rule 0 s -> :", "rule 0 :", "rule 0 -> :", "rule 0 -> s :", "attribute new"):
            self.refuse([*ALL, bad], len(ALL))
            self.refuse([*ALL, bad, "first a", "worse"], len(ALL))

    def test_costs(self):
        for cost in ("00", "01", "000", "0000", "0001", "01000", "10000", "99999", "1001", "9999", "-1", "-0", "+1", "+0", "1_0", "1.0",
                     "1e2", "x", "=", "0x1", "1,000", "a0", "0a", "*", "$1", "99999999999999999999"):
            self.refuse([*ALL, f"morph a k {cost} ="], len(ALL))
            self.refuse([*ALL, f"rule {cost} s -> s + s :"], len(ALL))
        for cost in (0, 1, 9, 10, 99, 100, 999, 1000):
            self.assertEqual(self.read([*ALL, f"morph a k {cost} ="]).morphs()[-1][3], cost)
            self.assertEqual(self.read([*ALL, f"rule {cost} s -> s + s :"]).rules()[-1][2], cost)
        self.refuse([*ALL, "morph a 0 k ="], len(ALL))
        self.refuse([*ALL, "rule s 0 -> s + s :"], len(ALL))
        self.refuse([*ALL, "rule s -> s + s :"], len(ALL))

    def test_marks(self):
        for mark in ("num", "=", "num=", "=sg", "num=sg=", "num==sg", "=num=sg", "num=sg=sg", "num=nom", "other=sg", "sg=num", "==",
                     "num:sg", "num=sg,case=nom", "num->sg", "Num=sg", "num=*", "num=?x"):
            self.refuse([*ALL, f"morph a k 0 = {mark}"], len(ALL))
            self.refuse([*ALL, f"morph a k 0 = case=nom {mark}"], len(ALL))
            self.refuse([*ALL, f"morph a k 0 = {mark} case=nom"], len(ALL))
        self.refuse([*ALL, "morph a k 0 = num=sg num=sg"], len(ALL))
        self.refuse([*ALL, "morph a k 0 = num=sg num=pl"], len(ALL))
        self.refuse([*ALL, "morph a k 0 num=sg"], len(ALL))
        self.assertEqual(self.read([*ALL, "morph a k 0 = num=sg case=nom"]).morphs()[-1][2], (("num", "sg"), ("case", "nom")))

    def test_the_sign_for_nothing_at_other_places(self):
        for bad in ("attribute = x", "attribute x =", "category =", "category x =", "start =", "first =", "arc = b c", "arc a = c",
                    "arc a b =", "end = s", "end stem =", "seam = b c", "seam a = c", "seam a b ==", "morph = k 0 =", "morph a = 0 =",
                    "morph a k = =", "morph a k 0 ==", "morph a k 0 = =", "rule = s -> s + s :", "rule 0 = -> s + s :", "rule 0 s = -> s :",
                    "rule 0 s -> = :", "rule 0 s -> s + s : =", "rule 0 s = s :", "rule 0 n = -> s + s :", "= a b"):
            self.refuse([*ALL, bad], len(ALL))
        self.assertEqual(self.read([*ALL, "seam abcd e ="]).seams()[-1], ("abcd", "e", ""))
        self.assertEqual(self.read([*ALL, "morph abc k 0 ="]).morphs()[-1][4], "")

    def test_the_signs_of_rules(self):
        for bad in (
            "rule 0 s s + s :", "rule 0 s -> s + s", "rule 0 s -> s s :", "rule 0 s -> -> s + s :", "rule 0 s -> s -> s :",
            "rule 0 s -> s + s -> :", "rule 0 s -> s + + s :", "rule 0 s -> + s :", "rule 0 s -> s + :", "rule 0 s -> s + s + :",
            "rule 0 s -> + :", "rule 0 s -> s + s : :", "rule 0 s -> : s + s :", "rule 0 s : -> s + s :", "rule 0 s : s + s -> :",
            "rule 0 s : s + s", "rule 0 s -> s : + s", "rule 0 s -> s + s : +", "rule 0 s -> s + s : ->", "rule 0 s + s -> s :",
            "rule 0 + -> s :", "rule 0 s + -> s :", "rule + 0 s -> s + s :", "rule -> 0 s -> s + s :", "rule 0 -> s + s :",
            "-> rule 0 s -> s + s :", "rule 0 s -> s + s : x : y", "rule 0 s ->s + s :", "rule 0 s -> s+s :", "rule 0 s -> s + s:",
            "rule 0 s - > s + s :", "rule 0 s => s + s :", "rule 0 s -> s ++ s :", "rule 0 s -> s + s ::", "rule 0 : s -> s + s :",
            "rule 0 np nom -> sg + s :", "rule 0 n + sg -> s + s :",
        ):
            self.refuse([*ALL, bad], len(ALL))
        given = self.read([*ALL, "rule 0 n ?x -> n ?x + s + np * ?x : $3 $1"])
        self.assertEqual(given.rules()[-1], (("n", ("?x",)), (("n", ("?x",)), ("s", ()), ("np", ("*", "?x"))), 0, (3, 1)))

    def test_items(self):
        for item in ("$0", "$5", "$", "$01", "$10", "$1$2", "$-1", "$+1", "$a", "$$1", "1$", "$1.", "$ 1", "$=", "$*", "$?x", "*", "?x", "+",
                     "a_b", "a" * 21, "$9", "$00", "$11", "=", "~"):
            self.refuse([*ALL, f"rule 0 s -> s + s + s + s : {item}"], len(ALL))
            self.refuse([*ALL, f"rule 0 s -> s + s + s + s : a {item} $1"], len(ALL))
        for many in range(1, 5):
            parts = " + ".join(["n sg"] * many)
            for number in range(1, 5):
                if number > many:
                    self.refuse([*ALL, f"rule 0 s -> {parts} : ${number}"], len(ALL))
                else:
                    given = self.read([*ALL, f"rule 0 s -> {parts} : ${number} {number}"])
                    self.assertEqual(given.rules()[-1][3], (number, str(number)))

    def test_each_error_of_a_call(self):
        for bad in (
            *[f"attribute {name}" for name in ("new x x", "num x", "new a b c d e f g", "New x", "new X", "1 x", "new 1", f"{'a' * 13} x")],
            *[f"category {rest}" for rest in ("s", "np num", "x other", "x num num", "x Num", "X", "1")],
            "start x", "start S", "start num", "first Q", "first 1", f"first {'a' * 13}", "arc begin noun other", "arc A b c", "arc a B c",
            "arc a b C", "end stem np", "end stem x", "end X s", "seam y s other", "seam abcde b c", "seam a bcdef c", "seam a b abcdefghi",
            "seam a1 b c", "seam a b C", "seam a x =", "seam abcd ci =", "seam abcd ci xy", "seam ab s b", "morph a1 k 0 =", "morph abcdefghijklm k 0 =",
            "morph A k 0 =", "morph a K 0 =", "morph a k 0 a_b", f"morph a k 0 {'a' * 21}", "morph bcd k 0 =",
            "morph bcde k 1001 =", "morph a k 1001 =", "rule 1001 s -> s + s :", "rule 0 x -> s :", "rule 0 s -> x :", "rule 0 s x -> s + s :",
            "rule 0 n -> s + s :", "rule 0 n sg sg -> s + s :", "rule 0 n nom -> s + s :", "rule 0 np ?x ?x -> s + s :",
            "rule 0 n ? -> s + s :", "rule 0 n ?X -> s + s :", "rule 0 s -> s + s + s + s + s :", "rule 0 s -> s :", "rule 0 n * -> np * * :",
            "rule 0 n sg -> np nom sg :",
        ):
            self.refuse([*ALL, bad], len(ALL))
            # The grammar would take the lines behind it, but the first bad line is told.
            self.refuse([*ALL, bad, "category more", "", bad], len(ALL))

    def test_a_ring_and_growth_across_lines(self):
        self.refuse(["category a", "category b", "rule 0 a -> b :", "rule 1 b -> a :", "worse"], 3)
        self.refuse(["category a", "category b", "rule 0 a -> a :"], 2)
        self.refuse(["morph ab k 0 =", "seam ab ab ab", "seam c ab =", ""], 1)
        self.refuse(["seam ab ab ab", "morph x k 0 =", "morph ab k 0 ="], 2)
        self.read(["seam ab ab ab", "morph aba k 0 =", "morph ba k 0 ="])

    def test_any_strings(self):
        for k, bad in enumerate((*NO_NAMES, "(", "rule", "a=b", "$1", "->", "x" * 1000, "a " * 500, "-> + : = $1")):
            self.refuse([bad], 0)
            self.refuse(ALL[:k] + [bad] + ALL[k:], k)

    def test_the_first_bad_line(self):
        for first in range(4):
            for second in range(first + 1, 6):
                lines = [f"first q{k}" for k in range(6)]
                lines[first], lines[second] = "bad", "start none"
                self.refuse(lines, first)
                lines[first], lines[second] = "start none", ""
                self.refuse(lines, first)

    def test_names_that_are_no_names_at_each_place(self):
        for line in ALL:
            tokens = line.split()
            for k, token in enumerate(tokens):
                if k and token not in ("=", "*", "->", "+", ":"):
                    for bad in ("A_", "a" * 25, "_", "?", "a,b", "="):
                        other = " ".join(tokens[:k] + [bad] + tokens[k + 1:])
                        allowed = bad == "=" and (tokens[0], k) in (("seam", 3), ("morph", 4))
                        lines = [other if one == line else one for one in ALL]
                        if not allowed:
                            self.refuse(lines, ALL.index(line))

    def test_a_line_is_added_to_a_grammar_of_its_own(self):
        lines = ["category s"]
        one, other = self.read(lines), self.read(lines)
        one.add_category("t", [])
        self.assertEqual(write_grammar(other), lines)
        self.assertEqual(lines, ["category s"])


class There(LinesTest):
    def test_there_and_back(self):
        chance = random.Random(93)
        for _ in range(150):
            given = some_language(chance, (0, 1, 17, 999, 1000)) if chance.randrange(2) else some_grammar(chance)
            lines = write_grammar(given)
            self.check(given, lines)
            self.assertIs(same_grammar(given, self.read(lines)), True)
            for line in lines:
                self.assertEqual(" ".join(line.split()), line)
            if lines:
                k = chance.randrange(len(lines))
                self.refuse(lines[:k] + [""] + lines[k:], k)


if __name__ == "__main__":
    unittest.main()
