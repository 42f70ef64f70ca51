"""Points 99 and 104."""

import random
import unittest

from firsthand.claimnotes import format_claim, parse_claim
from firsthand.claims import Claim
from firsthand.setmaking import everything, exactly, nothing, torn
from tests.brute import lists_of, only_tuples
from tests.notes import bad_line, check_changes
from tests.worlds import random_claim, random_family

SHOWS = Claim.shows(["x", "first"], [["a", ""], ["b", "ab"]])
ATOMS = {
    "lies(x;ab -1,. +.,.)": Claim.lies("x", exactly("ab", ["a"])), "lies(first;z)": Claim.lies("first", nothing("z")),
    "reads(x;0;)": Claim.reads("x", 0, ""), "reads(any1;12;ab)": Claim.reads("any1", 12, "ab"), "apart(x;x;0)": Claim.apart("x", "x", 0),
    "apart(y;x;9)": Claim.apart("y", "x", 9), "slips(x;0)": Claim.slips("x", 0), "slips(abcdefgh;9)": Claim.slips("abcdefgh", 9),
    "costs(0)": Claim.costs(0), "costs(99)": Claim.costs(99), "shows(x,first;a,|b,ab|)": SHOWS, "shows(;)": Claim.shows([], []),
    "shows(;||)": Claim.shows([], [[], []]), "shows(x;)": Claim.shows(["x"], []), "shows(x;||)": Claim.shows(["x"], [[""], [""]]),
    "shows(x,x;,|)": Claim.shows(["x", "x"], [["", ""]]), "shows(x;a|zz|)": Claim.shows(["x"], [["a"], ["zz"]]),
}
LIES = Claim.lies("x", torn("ab", "a*"))
CLAIMS = [*ATOMS.values(), ~LIES, LIES & SHOWS, SHOWS | ~(LIES & Claim.costs(3)), ~~(Claim.slips("x", 1) | Claim.slips("y", 2)) & LIES]


class FormatTest(unittest.TestCase):
    def test_atoms(self):
        for string, claim in ATOMS.items():
            self.assertEqual(format_claim(claim), string)
            self.assertEqual(parse_claim(string), claim)
            self.assertEqual(parse_claim(string).tree, claim.tree)
            self.assertTrue(only_tuples(parse_claim(string).tree[:2]))

    def test_operators(self):
        one, two, three = Claim.costs(1), Claim.slips("x", 2), Claim.reads("y", 3, "a")
        self.assertEqual(format_claim(one & two), "and(costs(1)&slips(x;2))")
        self.assertEqual(format_claim(one | two), "or(costs(1)&slips(x;2))")
        self.assertEqual(format_claim(~one), "not(costs(1))")
        self.assertEqual(format_claim((one & two) & three), "and(and(costs(1)&slips(x;2))&reads(y;3;a))")
        self.assertEqual(format_claim(one & (two | ~three)), "and(costs(1)&or(slips(x;2)&not(reads(y;3;a))))")
        self.assertEqual(format_claim(Claim.of(lists_of((one | ~SHOWS).tree))), "or(costs(1)&not(shows(x,first;a,|b,ab|)))")

    def test_there_and_back(self):
        rand = random.Random(104)
        made = [random_claim(rand, random_family(rand), atoms=6) for _ in range(200)]
        for claim in CLAIMS + made:
            string = format_claim(claim)
            self.assertEqual(parse_claim(string), claim)
            self.assertEqual(format_claim(parse_claim(string)), string)
            self.assertEqual(string.strip(" "), string)
            self.assertNotIn("\n", string)


class BoundsTest(unittest.TestCase):
    def both(self, good, bad):
        self.assertEqual(format_claim(parse_claim(good)), good)
        self.assertEqual(bad_line(parse_claim, bad), 0, bad)

    def test_numbers(self):
        self.both("reads(x;12;a)", "reads(x;13;a)")
        self.both("apart(x;y;9)", "apart(x;y;10)")
        self.both("slips(x;9)", "slips(x;10)")
        self.both("costs(99)", "costs(100)")

    def test_names(self):
        self.both("slips(abcdefg8;1)", "slips(abcdefgh9;1)")
        for name in ("", "X", "1x", "x-", "x y", "x,y", "xX", " x", "x "):
            for string in (f"slips({name};1)", f"apart(x;{name};1)", f"apart({name};x;1)", f"reads({name};1;a)", f"lies({name};ab)", f"shows(y,{name};)"):
                if (name, string) != ("x,y", "shows(y,x,y;)"):
                    self.assertEqual(bad_line(parse_claim, string), 0, string)
        self.both(f"shows({','.join('x' * 9)};)", f"shows({','.join('x' * 10)};)")

    def test_blocks(self):
        self.both(f"reads(x;1;{'z' * 36})", f"reads(x;1;{'z' * 37})")
        self.both(f"shows(x;{'z' * 36}|)", f"shows(x;{'z' * 37}|)")
        for block in ("A", "a b", " a", "1", "-", "a,b"):
            self.assertEqual(bad_line(parse_claim, f"reads(x;1;{block})"), 0)
            self.assertEqual(bad_line(parse_claim, f"shows(x;{block}|)"), 0)

    def test_columns(self):
        self.both(f"shows(x;{'a|' * 12})", f"shows(x;{'a|' * 13})")
        self.both(f"shows(;{'|' * 12})", f"shows(;{'|' * 13})")

    def test_atoms(self):
        string = "costs(1)"
        for _ in range(5):
            string = f"and({string}&costs(2))"
        self.both(string, f"and({string}&costs(2))")
        self.both(f"or(costs(0)&{string[4:-10]})", f"or(costs(0)&{string})")

    def test_operators(self):
        string = "costs(1)"
        for _ in range(10):
            string = f"not({string})"
        self.both(string, f"not({string})")
        for kind in ("and", "or"):
            string = "not(" * 8 + f"{kind}({kind}(costs(0)&costs(1))&costs(2))" + ")" * 8
            self.both(string, f"not({string})")
            string = f"{kind}(costs(3)&{kind}(costs(0)&costs(1)))"
            string = "not(" * 8 + string + ")" * 8
            self.both(string, f"not({string})")
        string = "not(" * 5 + "and(" * 5 + "costs(0)" + "&costs(1))" * 5 + ")" * 5
        self.both(string, f"not({string})")

    def test_very_deep_strings(self):
        for many in (17, 200, 100000):
            for word in ("not(", "and(", "(", "or(costs(1)&"):
                self.assertEqual(bad_line(parse_claim, word * many + "costs(1)" + ")" * many), 0)


class ParseTest(unittest.TestCase):
    def test_what_is_no_written_form(self):
        wrong = [
            "", " ", "costs", "costs()", "costs(1", "costs1)", "(1)", "costs((1))", "costs(1))", "costs(1)costs(1)", " costs(1)", "costs(1) ", "costs (1)",
            "costs( 1)", "costs(1 )", "costs(01)", "costs(00)", "costs(+1)", "costs(-1)", "costs(x)", "costs(1;2)", "Costs(1)", "cost(1)", "costs(1;)",
            "slips(x)", "slips(x;)", "slips(;1)", "slips(1;x)", "slips(x;1;1)", "slips(x; 1)", "slips(x,1)", "slips(x;01)", "slips(x;-1)",
            "apart(x;1)", "apart(x;y)", "apart(x;y;z;1)", "apart(x,y;1)", "apart(1;x;y)", "apart(x;y;)", "apart(x;;1)",
            "reads(x;1)", "reads(x;a;1)", "reads(x;;a)", "reads(x;1;a;a)", "reads(x;01;a)", "reads(1;x;a)", "reads(x;1; )",
            "lies(x)", "lies(x;)", "lies(ab;x2)", "lies(x;ab;ab)", "lies(x; ab)", "lies(x;ab )", "lies(x;ab -.,.)", "lies(x;ba)", "lies(;ab)", "lies(x;ab +0)",
            "lies(x,y;ab)", "lies(ab +0,0)",
        ]
        for string in wrong:
            self.assertEqual(bad_line(parse_claim, string), 0, string)

    def test_collations(self):
        wrong = [
            "shows()", "shows(x)", "shows(x;a)", "shows(x;|a)", "shows(x;a|b)", "shows(x;a,b|)", "shows(x,y;a|)", "shows(x,y;|)", "shows(x,y;a,b)", "shows(x,y;a,b,c|)",
            "shows(;a|)", "shows(;,|)", "shows(;a)", "shows(,;)", "shows(x,;)", "shows(,x;)", "shows(x;a||b|) ", "shows(x;;)", "shows(x;a|;)", "shows(x y;)",
            "shows(x, y;)", "shows(x;a |)", "shows(x;A|)", "shows(x;a;b|)", "shows(a|;x)",
        ]
        for string in wrong:
            self.assertEqual(bad_line(parse_claim, string), 0, string)
        self.assertEqual(parse_claim("shows(x;a||b|)").tree[2], (("a",), ("",), ("b",)))

    def test_operators(self):
        one, two = "costs(1)", "slips(x;2)"
        wrong = [
            f"and({one})", f"and({one}&)", f"and(&{one})", f"and({one}&{two}&{one})", f"and({one},{two})", f"and({one}|{two})", f"and({one} & {two})",
            f"or({one})", f"or({one}|{two})", f"or({one}&{two}", f"or({one}&{two}))", f"not({one}&{two})", "not()", f"not {one}", f"not({one}", f"not{one}",
            f"{one}&{two}", f"({one}&{two})", f"And({one}&{two})", f"and({one}{two})", f"and(and({one}&{two}))", f"xor({one}&{two})", f"and(({one})&{two})",
            f"and({one})&{two})", f"and({one}&({two})", f"and()&{two})", "&", "and(&)", f"and({one}&&{two})", f"not(({one}))",
        ]
        for string in wrong:
            self.assertEqual(bad_line(parse_claim, string), 0, string)

    def test_more_lines(self):
        for string in ("costs(1)\n", "costs(1)\ncosts(1)", "lies(x;ab)\n\n", "not(costs(1))\n)", "costs(1)\n "):
            self.assertEqual(bad_line(parse_claim, string), 1, string)
        for string in ("\n", "\ncosts(1)", "and(costs(1)&\ncosts(2))", "costs(1\n)", "costs(1) \ncosts(1)"):
            self.assertEqual(bad_line(parse_claim, string), 0, string)

    def test_parts_moved(self):
        """No two parts of an atomic claim can be exchanged, except for names."""
        for string in ("reads(x1;1;a)", "slips(x;1)", "lies(x;ab +0,0)", "apart(x;y;1)"):
            kind, _, inner = string[:-1].partition("(")
            parts = inner.split(";")
            for turned in ([parts[-1], *parts[1:-1], parts[0]], parts[1:] + parts[:1], parts + parts[-1:], parts[:-1], parts[1:]):
                self.assertEqual(bad_line(parse_claim, f"{kind}({';'.join(turned)})"), 0, turned)
        self.assertEqual(parse_claim("apart(y;x;1)"), Claim.apart("y", "x", 1))

    def test_changed_strings(self):
        rand = random.Random(1040)
        made = [random_claim(rand, random_family(rand), atoms=4) for _ in range(20)]
        check_changes(self, 104, [format_claim(claim) for claim in CLAIMS + made + [Claim.lies("x", everything("ab"))]], parse_claim, format_claim)


if __name__ == "__main__":
    unittest.main()
