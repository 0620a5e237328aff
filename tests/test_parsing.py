"""Points 03.1 to 03.3 and parsing.py of the interface."""

import unittest

from cellcloth.errors import TextError
from cellcloth.parsing import parse

WORDS = ("part top in out let reg from mem of when at put use machine to rows if else bits div mod max min "
         "word is not any all odd cut join choose read").split()


def items(text):
    """The items of a part with this text in its block."""
    told = parse("part c() {\n" + text + "\n}\ntop c();\n")
    assert told[0] == "description" and told[2:] == ("c", ())
    (part,) = told[1]
    assert part[:3] == ("part", "c", ())
    return part[3]


def expression(text):
    return items("let x: 1 = " + text + ";")[0][3]


def amount(text):
    return items("in x: " + text + ";")[0][2]


def ref(name, *indexes):
    return ("ref", (name, indexes))


class GrammarTest(unittest.TestCase):
    def test_texts(self):
        self.assertEqual(parse("top c();"), ("description", (), "c", ()))
        self.assertEqual(parse("top c(1);"), ("description", (), "c", (1,)))
        self.assertEqual(parse("top c(1, -20,0003);"), ("description", (), "c", (1, -20, 3)))
        self.assertEqual(
            parse("part a() { } part b(V) { } part c9(V, W, xX1) { } top b(2);"),
            ("description", (("part", "a", (), ()), ("part", "b", ("V",), ()),
                             ("part", "c9", ("V", "W", "xX1"), ())), "b", (2,)))

    def test_inputs_and_outputs(self):
        self.assertEqual(items("in a: 4;"), (("in", "a", 4),))
        self.assertEqual(items("in a: W; out s: (W - 1) = a;"),
                         (("in", "a", "W"), ("out", "s", ("sub", "W", 1), ref("a"))))

    def test_wires_and_registers(self):
        self.assertEqual(items("let a: 2 = b;"), (("let", ("a", ()), 2, ref("b")),))
        self.assertEqual(items("let a[1]: 2 = b[i, (i + 1)];"),
                         (("let", ("a", (1,)), 2, ref("b", "i", ("add", "i", 1))),))
        self.assertEqual(items("reg a[i, 2]: W from -3 = b;"),
                         (("reg", ("a", ("i", 2)), "W", -3, ref("b")),))

    def test_memories(self):
        self.assertEqual(items("mem m: 4 of 8 { }"), (("mem", ("m", ()), 4, 8, ()),))
        self.assertEqual(
            items("mem m[0]: W of (2 * D) { when e at a put d; when f at b put g; }"),
            (("mem", ("m", (0,)), "W", ("mul", 2, "D"),
              ((ref("e"), ref("a"), ref("d")), (ref("f"), ref("b"), ref("g")))),))

    def test_uses(self):
        self.assertEqual(items("use u = p() { }"), (("use", ("u", ()), "p", (), ()),))
        self.assertEqual(
            items("use u[i] = p(1, W) { a = x; b = (x & y); }"),
            (("use", ("u", ("i",)), "p", (1, "W"),
              (("a", ref("x")), ("b", ("op", "and", (ref("x"), ref("y")))))),))

    def test_machines(self):
        self.assertEqual(items("machine m { one; }"), (("machine", ("m", ()), ("one",), ()),))
        self.assertEqual(
            items("machine m[3] { red, green, red; red to green when e; green to red when f; }"),
            (("machine", ("m", (3,)), ("red", "green", "red"),
              (("red", "green", ref("e")), ("green", "red", ref("f")))),))

    def test_rows_and_choices(self):
        self.assertEqual(items("rows i from 0 to W { }"), (("rows", "i", 0, "W", ()),))
        self.assertEqual(items("rows i from -1 to (W - 1) { in a: 1; rows j from 1 to 2 { in b: 1; } }"),
                         (("rows", "i", -1, ("sub", "W", 1), (
                             ("in", "a", 1), ("rows", "j", 1, 2, (("in", "b", 1),)))),))
        self.assertEqual(items("if W { } else { }"), (("if", "W", (), ()),))
        self.assertEqual(items("if (W < 3) { in a: 1; } else { in b: 2; in c: 3; }"),
                         (("if", ("less", "W", 3), (("in", "a", 1),), (("in", "b", 2), ("in", "c", 3))),))

    def test_amounts(self):
        ops = {"+": "add", "-": "sub", "*": "mul", "div": "div", "mod": "mod", "max": "max", "min": "min",
               "<": "less", "==": "same"}
        for sign, op in ops.items():
            self.assertEqual(amount(f"(W {sign} 2)"), (op, "W", 2))
        self.assertEqual(amount("bits(W)"), ("bits", "W"))
        self.assertEqual(amount("bits(((W - 1)*(2 max V)))"),
                         ("bits", ("mul", ("sub", "W", 1), ("max", 2, "V"))))

    def test_expressions(self):
        self.assertEqual(expression("word(-3, (W + 1))"), ("word", -3, ("add", "W", 1)))
        self.assertEqual(expression("a"), ref("a"))
        self.assertEqual(expression("a[1, i, bits(7)]"), ref("a", 1, "i", ("bits", 7)))
        self.assertEqual(expression("u.s"), ("port", ("u", ()), "s"))
        self.assertEqual(expression("u[2].s"), ("port", ("u", (2,)), "s"))
        self.assertEqual(expression("m is red"), ("is", ("m", ()), "red"))
        self.assertEqual(expression("m[i] is red"), ("is", ("m", ("i",)), "red"))
        self.assertEqual(expression("cut(a, 1, W)"), ("cut", ref("a"), 1, "W"))
        self.assertEqual(expression("join(a)"), ("join", (ref("a"),)))
        self.assertEqual(expression("join(a, b, a)"), ("join", (ref("a"), ref("b"), ref("a"))))
        self.assertEqual(expression("choose(a, b, c)"), ("choose", ref("a"), ref("b"), ref("c")))
        self.assertEqual(expression("read(m, a)"), ("read", ("m", ()), ref("a")))
        self.assertEqual(expression("read(m[0], (a + b))"),
                         ("read", ("m", (0,)), ("op", "add", (ref("a"), ref("b")))))

    def test_signs(self):
        signs = {"&": "and", "|": "or", "^": "xor", "+": "add", "-": "sub", "*": "mul", "==": "same",
                 "<": "less", "<<": "shl", ">>": "shr"}
        for sign, name in signs.items():
            self.assertEqual(expression(f"(a {sign} b)"), ("op", name, (ref("a"), ref("b"))))
            self.assertEqual(expression(f"(a{sign}b)"), ("op", name, (ref("a"), ref("b"))))
        for name in ("not", "any", "all", "odd"):
            self.assertEqual(expression(f"{name}(a)"), ("op", name, (ref("a"),)))
        self.assertEqual(expression("not(not((a & any(b))))"),
                         ("op", "not", (("op", "not", (("op", "and", (ref("a"), ("op", "any", (ref("b"),)))),)),)))

    def test_everything_is_tuples(self):
        def look(value):
            self.assertIn(type(value), (tuple, str, int))
            if type(value) is tuple:
                for inner in value:
                    look(inner)
        look(parse("part p(W, V) { in a: W; mem m: 1 of 2 { when a at a put a; } use u = p(1, 2) { a = b; } "
                   "machine s { x, y; x to y when a; } rows i from 0 to 2 { if i { } else { out s: 1 = join(a); } } "
                   "let b[1]: 1 = choose(a[2], not(a), read(m, a)); } top p(1, 2);"))

    def test_nested_60_deep(self):
        text = "a"
        for _ in range(57):
            text = "(" + text + " & b)"
        self.assertEqual(parse("part c() { let x: 1 = " + text + "; } top c();")[0], "description")
        text = "a"
        for _ in range(57):
            text = "choose(a, b, " + text + ")"
        self.assertEqual(parse("part c() { let x: 1 = " + text + "; } top c();")[0], "description")
        text = "in a: 1;"
        for _ in range(59):
            text = "if 1 { " + text + " } else { }"
        self.assertEqual(parse("part c() { " + text + " } top c();")[0], "description")
        text = "in a: 1;"
        for _ in range(59):
            text = "rows i from 0 to 1 { " + text + " }"
        self.assertEqual(parse("part c() { " + text + " } top c();")[0], "description")

    def test_equal_at_each_call(self):
        text = "part c() { in a: 1; out s: 1 = a; } top c();"
        self.assertEqual(parse(text), parse(text))


class TokensTest(unittest.TestCase):
    def test_the_longest_counts(self):
        self.assertEqual(expression("(a<<b)"), ("op", "shl", (ref("a"), ref("b"))))
        self.assertEqual(expression("(a==b)"), ("op", "same", (ref("a"), ref("b"))))
        self.assertEqual(expression("(a< b)"), ("op", "less", (ref("a"), ref("b"))))
        self.fails("part c() { let x: 1 = (a< <b); } top c();", 1)
        self.fails("part c() { let x: 1 = (a= =b); } top c();", 1)
        # Three of them are a long one and a short one.
        self.fails("part c() {\nlet x: 1 = (a\n<<<\nb); } top c();", 3)

    def test_minus(self):
        self.assertEqual(amount("(W - 1)"), ("sub", "W", 1))
        self.assertEqual(amount("(W - -1)"), ("sub", "W", -1))
        self.assertEqual(amount("(W--1)"), ("sub", "W", -1))
        self.assertEqual(amount("(W- 1)"), ("sub", "W", 1))
        self.assertEqual(amount("(1-W)"), ("sub", 1, "W"))
        self.assertEqual(amount("(1 -W)"), ("sub", 1, "W"))
        self.assertEqual(amount("-0"), 0)
        # A digit directly behind it makes it part of the number, and then the op is missing.
        self.fails("part c() { in x:\n(W\n-1\n); } top c();", 3)
        self.fails("part c() { in x: - 1; } top c();", 1)
        self.assertEqual(expression("(a-b)"), ("op", "sub", (ref("a"), ref("b"))))

    def test_names_and_numbers_side_by_side(self):
        self.assertEqual(expression("a1"), ref("a1"))
        self.assertEqual(expression("a1b2C3"), ref("a1b2C3"))
        # A number ends where its digits end; a name may follow at once.
        self.assertEqual(items("rows i from 0to 3{ }"), (("rows", "i", 0, 3, ()),))
        self.assertEqual(amount("(7max 12)"), ("max", 7, 12))
        self.fails("part c() { in 1a: 1; } top c();", 1)

    def test_remarks_spaces_and_lines(self):
        self.assertEqual(parse("  # all\n\n top # here ; ( {\n\n  c   (\n1\n,2 )#\n;# end"),
                         ("description", (), "c", (1, 2)))
        self.assertEqual(parse("top c();"), parse("\n\ntop\nc\n(\n)\n;\n\n"))
        self.assertEqual(parse("# top d();\ntop c();\n#"), ("description", (), "c", ()))
        self.assertEqual(parse("#~!@$%\"'\\?/`_\ntop c();"), ("description", (), "c", ()))
        self.assertEqual(parse("# \t\u00e9\r\ntop c();# \x00"), ("description", (), "c", ()))

    def test_lengths(self):
        self.assertEqual(expression("abcdefghijkl"), ref("abcdefghijkl"))
        self.assertEqual(expression("a23456789012"), ref("a23456789012"))
        self.fails("part c() {\nlet x: 1 =\nabcdefghijklm; } top c();", 3)
        self.fails("top\na234567890123();", 2)
        self.assertEqual(amount("1234567"), 1234567)
        self.assertEqual(amount("-1234567"), -1234567)
        self.assertEqual(amount("0000007"), 7)
        self.fails("top c(\n12345678);", 2)
        self.fails("top c(\n-12345678);", 2)
        self.fails("top c(\n00000001);", 2)
        self.assertEqual(amount("9999999"), 9999999)

    def test_characters_that_begin_no_token(self):
        for sign in "!\"$%'/?@\\_`~>\t\r\v\f\x00\x7f\x80\u00e9\u00b2\u0663\u2028":
            self.fails("top c\n\n" + sign + "();", 3)
        self.fails("top\n c>\n();", 2)
        # Behind >> there is none for another >.
        self.fails("part c() { let x: 1 =\n(a >>> b); } top c();", 2)

    def test_words_are_no_names(self):
        for word in WORDS:
            self.fails("top\n" + word + "\n();", 2)
            self.fails("part\n" + word + "\n() { } top c();", 2)
            self.fails("part c(\n" + word + "\n) { } top c();", 2)
            self.fails("part c() { in\n" + word + "\n: 1; } top c();", 2)
            self.fails("part c() { let\n" + word + "\n: 1 = a; } top c();", 2)
            self.fails("part c() { rows\n" + word + "\nfrom 0 to 1 { } } top c();", 2)
            self.fails("part c() { let a: 1 = u.\n" + word + "\n; } top c();", 2)
            self.fails("part c() { let a: 1 = m is\n" + word + "\n; } top c();", 2)
            self.fails("part c() { machine m {\n" + word + "\n; } } top c();", 2)
            self.fails("part c() { use u =\n" + word + "\n() { } } top c();", 2)
        for name in ("Part", "topp", "i", "o", "ins", "Word", "isnot", "xor", "add", "same", "shl", "end", "name"):
            self.assertEqual(expression(name), ref(name))

    def fails(self, text, line):
        fails(self, text, line)


def fails(case, text, line):
    with case.assertRaises(TextError) as caught:
        parse(text)
    case.assertEqual(caught.exception.line, line, text)


class LinesTest(unittest.TestCase):
    def test_texts_without_tokens(self):
        for text in ("", "\n", "\n\n\n", "   ", "# part\n# top", "\n  \n# x"):
            fails(self, text, 1)

    def test_texts_that_end_early(self):
        whole = "part\nc\n(\nW\n,\nV\n)\n{\nin\na\n:\n(\nW\n+\n1\n)\n;\n}\ntop\nc\n(\n1\n,\n2\n)\n;".split("\n")
        parse("\n".join(whole))
        for many in range(1, len(whole)):
            text = "\n".join(whole[:many])
            fails(self, text, many)
            fails(self, text + "\n", many)
            fails(self, text + "\n\n # end\n\n", many)

    def test_each_item_that_ends_early(self):
        for item in ("out s : 1 = a ;", "let a [ 1 , 2 ] : 1 = choose ( a , b , c ) ;",
                     "reg a : 1 from 0 = join ( a , b ) ;", "mem m : 1 of 2 { when a at b put read ( m , c ) ; }",
                     "use u = p ( 1 , 2 ) { a = not ( x ) ; }", "machine m { a , b ; a to b when ( x & y ) ; }",
                     "rows i from 0 to 2 { in a : 1 ; }", "if 1 { in a : 1 ; } else { in b : 1 ; }",
                     "let a : bits ( 3 ) = cut ( u . s , 1 , 2 ) ;", "let b : 1 = m is x ;",
                     "let c : 1 = word ( 1 , 2 ) ;"):
            tokens = item.split()
            parse("part c() {\n" + "\n".join(tokens) + "\n} top c();")
            for many in range(len(tokens) + 1):
                # The brace that opens the block stands in the first line.
                fails(self, "part c() {\n" + "\n".join(tokens[:many]), many + 1)

    def test_tokens_that_do_not_fit(self):
        for text, line in (
                ("c\n", 1), ("\n\n;", 3), ("part c() { }\nin a: 1;", 2), ("part c() { }\npart\n", 2),
                ("top c();\n\ntop c();", 3), ("top c();\n}", 2), ("top c(\nW);", 2), ("top c(1\n2);", 2),
                ("top c(1,\n);", 2), ("top c\n;", 2), ("top c()\n", 1), ("part c\n{ } top c();", 2),
                ("part c(W,\n) { } top c();", 2), ("part c(1) { } top c();", 1), ("part c()\n; top c();", 2),
                ("part c() { }\n; top c();", 2), ("part c() {\nc }", 2), ("part c() {\n} }", 2)):
            fails(self, text, line)

    def test_items_that_do_not_fit(self):
        for text in ("in a[1]:\n1;", "in a\n= 1;", "in a: 1\n= b;", "in\n1: 1;", "out s: 1\n;", "out s\n= a;",
                     "out s[1]: 1 = a;", "let a: 1 from 1 = b;", "reg a: 1 = b;", "reg a: 1 of 2 = b;",
                     "mem m: 1 { }", "mem m: 1 of 2;", "mem m: 1 of 2 { at a when b put c; }",
                     "mem m: 1 of 2 { when a put b at c; }", "mem m: 1 of 2 { when a at b put c }",
                     "use u: p() { }", "use u = p { }", "use u = p(,) { }", "use u = p(1,) { }", "use u = p();",
                     "use u = p() { a: b; }", "use u = p() { a[1] = b; }", "machine m { }", "machine m { ; }",
                     "machine m { a, ; }", "machine m { a; b; }", "machine m { a b; }",
                     "machine m { a; a to a; }", "machine m { a; a when b to a; }", "rows i[1] from 0 to 1 { }",
                     "rows i to 1 { }", "rows i from 0 to 1;", "if 1 { }", "if { } else { }", "if 1 { } else if",
                     "let a[]: 1 = b;", "let a[1: 1 = b;", "let a[1,]: 1 = b;", "let a: = b;", ";", "else { }",
                     "from", "in a: 1;;"):
            with self.assertRaises(TextError):
                items(text)

    def test_amounts_that_do_not_fit(self):
        for text in ("()", "(1)", "(1 +)", "(+ 1)", "(1 + 2", "(1 + 2 + 3)", "(1 & 2)", "(1 << 2)", "(1 >> 2)",
                     "bits 1", "bits()", "bits(1, 2)", "1 + 2", "a[1]", "a.b", "word(1, 2)", "(W = 1)", "-W"):
            with self.assertRaises(TextError):
                amount(text)

    def test_expressions_that_do_not_fit(self):
        for text in ("1", "(a)", "(a b)", "(a & b & c)", "(a div b)", "(a max b)", "(a = b)", "not a", "not()",
                     "not(a, b)", "odd(a b)", "word(1)", "word(1, 2, 3)", "word(a.b, 1)", "word()", "cut(a, 1)",
                     "cut(a, 1, 2, 3)", "cut(1, 1, 1)", "join()", "join(a,)", "join(,a)", "choose(a, b)",
                     "choose(a, b, c, d)", "read(m)", "read(m.a, b)", "read((a & b), c)", "read(m, a, b)", "a.b.c",
                     "a.b[1]", "a is b is c", "a is", "a.", "a[", "a[]", "bits(1)", "-a", "~a", "(-a)"):
            with self.assertRaises(TextError):
                expression(text)

    def test_characters_come_first(self):
        # The character that begins no token decides, although a token before it does not fit.
        fails(self, "top top top\n\n\n?", 4)
        fails(self, "part a() { }\npart a() { }\ntop a();\n\n@", 5)
        fails(self, "x\n1234567890\n?", 2)

    def test_tokens_come_ahead_of_names(self):
        fails(self, "part a() { }\npart a() { }\ntop a()\n}", 4)
        fails(self, "part a() { }\npart a() { }\ntop a", 3)

    def test_parts_twice(self):
        fails(self, "part a() { }\npart\na() { }\ntop a();", 3)
        fails(self, "part a() { }\npart b() { }\npart b() { }\npart a() { }\ntop a();", 3)
        fails(self, "part a() { }\npart a() { }\npart a() { }\ntop a();", 2)
        parse("part a() { } part A() { } part aa() { } top a();")

    def test_parameters_twice(self):
        fails(self, "part a(V,\nW,\nV) { }\ntop a();", 3)
        fails(self, "part a(V,\nW,\nW,\nV) { }\ntop a();", 3)
        fails(self, "part a(V,\nV,\nV) { }\ntop a();", 2)
        parse("part a(V) { } part b(V) { } part V(a, b) { } top a();")
        parse("part a(a) { in a: a; in a: a; } top a();")

    def test_the_first_name_twice(self):
        fails(self, "part a(V) { }\npart b(V,\nV) { }\npart a() { }\ntop a();", 3)
        fails(self, "part a(V) { }\npart a(V,\nV) { }\ntop a();", 2)
        fails(self, "part a() { }\npart b() { }\npart b(V,\nV) { }\npart a() { }\ntop a();", 3)
        fails(self, "part a(V,\nV) { }\npart a() { }\ntop a();", 2)


if __name__ == "__main__":
    unittest.main()
