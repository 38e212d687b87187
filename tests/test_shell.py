"""[18.1], [18.2] and what the document says of needrows.text.shell."""
import random
import unittest

from needrows.ask.questions import Question
from needrows.cover.regions import is_reason
from needrows.errors import (
    InvalidCommand, InvalidNumber, InvalidOperation, NothingToUndo, ParseError, RowsError, TooMany, UnknownName)
from needrows.few.papers import is_few, is_stream_paper
from needrows.keep.keepers import Keeper
from needrows.keep.states import is_parting_log, spare_rows
from needrows.text.formats import format_log, format_question, parse_log, parse_paper, parse_rest, parse_state
from needrows.text.shell import MAX_KEEPERS, Shell
from tests.asked import EVERY, LESS, STAIRS, UNLIKE, WIDE, expect, many_asked
from tests.helpers import FAR

PAY = "open pay left x; right u; x < u"
STAIR = tuple((number, 40 - number) for number in range(13))


def shell_with(*lines):
    return Shell.of_log(lines)


def stair_text(rows):
    return format_log(STAIRS, tuple(("left", row) for row in rows))


class Commands(unittest.TestCase):
    def test_each_form(self):
        shell = Shell()
        for line, answer in (
                ("names", "-"), (PAY, "ok"), ("names", "pay"), ("held pay", "left: -; right: -"), ("put pay -", "quiet"),
                ("put pay left 5, left 2, left 5", "quiet"), ("held pay", "left: 2; right: -"), ("would pay left 1", "quiet"),
                ("would pay right 3", "rung"), ("would pay -", "quiet"), ("few pay left", "few"), ("few pay right", "few"),
                ("question pay", "left x; right u; x < u"), ("undo pay 1", "2"), ("undo pay 0", "2"), ("undo pay 1", "1"),
                ("held pay", "left: 5; right: -"), ("spare pay", "-"), ("copy pay more", "ok"), ("part pay more", "alike"),
                ("put more right 9", "rung"), ("put more -", "rung"), ("held more", "left: 5; right: 9"), ("would more -", "rung"),
                ("part pay more", "-"), ("spare more", "-"), ("names", "more pay"), ("join pay more all", "ok"),
                ("held all", "left: 5; right: 9"), ("undo all 0", "3"), ("close more", "ok"), ("names", "all pay"),
                ("open stair left x y; right u v; x < u & y < v", "ok"), ("few stair left", "need"), ("join pay pay pays", "ok")):
            self.assertEqual(shell.run(line), answer, line)
        self.assertEqual(shell.names, ("all", "pay", "pays", "stair"))
        shell.run("put stair " + stair_text(STAIR[:3]))
        rest = parse_rest(STAIRS, "left", shell.run("reason stair left 1 39"))
        self.assertIs(is_reason(STAIRS, "left", (1, 39), rest, beside=(STAIR[0], STAIR[2])), True)
        paper = parse_paper(STAIRS, "left", shell.run("paper stair left"))
        self.assertIs(is_stream_paper(STAIRS, "left", paper), True)
        self.assertIs(is_stream_paper(LESS, "right", parse_paper(LESS, "right", shell.run("paper pay right"))), True)
        shell.run_all(("copy stair other", "undo other 1"))
        log = parse_log(STAIRS, shell.run("part stair other"))
        one, other = (shell.twin_of(name).checkpoint() for name in ("stair", "other"))
        self.assertIs(is_parting_log(one, other, log), True)

    def test_spare(self):
        shell = shell_with("open x p a; q b; r c; a != b", "put x p 1, q 5, q 9")
        state = shell.twin_of("x").checkpoint()
        self.assertEqual(shell.run("spare x"), format_log(state.question, spare_rows(state)))
        self.assertEqual(shell.run("spare x"), "q 5, q 9")

    def test_against_the_functions(self):
        source = random.Random(701)
        for asked in many_asked(702, 60):
            question, keeper, shell = asked.question, Keeper(asked.question), Shell()
            shell.run("open k " + format_question(question))
            for _ in range(4):
                log = tuple((stream, asked.random_row(source, stream)) for stream in source.choices(sorted(asked.streams), k=2))
                self.assertEqual(shell.run("would k " + format_log(question, log)), "rung" if keeper.would_ring(log) else "quiet")
                self.assertEqual(shell.run("put k " + format_log(question, log)), "rung" if keeper.put_all(log) else "quiet")
            self.assertEqual([shell.run("undo k 3"), parse_state(question, shell.run("held k"))], [str(keeper.undo(many=3)), keeper.checkpoint()])
            self.assertEqual(shell.twin_of("k"), keeper)
            for stream in asked.streams:
                self.assertEqual(shell.run(f"few k {stream}"), "few" if is_few(question, stream) else "need")
                for row in keeper.rows[stream]:
                    text = shell.run("reason k " + format_log(question, ((stream, row),)))
                    others = tuple(one for one in keeper.rows[stream] if one != row)
                    self.assertIs(is_reason(question, stream, row, parse_rest(question, stream, text), beside=others), True)

    def test_no_commands(self):
        shell = shell_with(PAY, "put pay left 5", "copy pay more")
        before, log = Shell.of_log(shell.log), shell.log
        right = (
            "names", "held pay", "question pay", "spare pay", "close pay", "undo pay 1", "few pay left", "paper pay left", "part pay more",
            "copy pay new", "join pay more new", "put pay left 1", "would pay left 1", "reason pay left 5", "open new left x; right u; x < u")
        wrong = [value for value in EVERY if value not in ("names",)]
        for line in right:
            word, _, rest = line.partition(" ")
            wrong += [line.upper(), line.title(), " " + line, line.replace(" ", "  ", 1) if rest and word not in ("put", "would") else " ",
                      word + "s " + rest, word if rest else "name", line + "\n" if word not in ("put", "would", "reason", "open") else "\n",
                      line + " " if word not in ("put", "would", "reason", "open") else word + " ", line.replace(" ", "\t", 1) if rest else "\t",
                      line + " more" if word not in ("put", "would", "reason", "open") else word + " pay"]
        wrong += ["put pay ", "would pay ", "reason pay ", "open new ", "open new", "put pay", "held abcdefghi", "held Pay", "held pa1", "held 1",
                  "held pay\n", "copy pay abcdefghi", "copy abcdefghi new", "join pay more", "join pay more N", "few pay Left", "few pay lefthands",
                  "undo pay -1", "undo pay +1", "undo pay 01", "undo pay 00", "undo pay 1 ", "undo pay x", "undo pay " + "1" * 41, "undo pay 1.0",
                  "undo pay \u0663", "names ", "names pay", "", "open", "close", "close ", "part pay", "paper pay", "put  left 1", "open NEW x",
                  ["names"], ("names",), b"names"]
        for line in wrong:
            expect(self, shell.run, (line,), {}, False, InvalidCommand, None, line)
            self.assertEqual(shell.tried(line), "! InvalidCommand")
        self.assertEqual([shell, shell.log], [before, log])
        for line in right:
            Shell.of_log(log).run(line)

    def test_rests_of_lines(self):
        """Whatever stands at the end of a line that is not empty makes a command; it need not be a text."""
        shell = shell_with(PAY, "put pay left 5")
        for rest in (" ", "  left 5", "left 5 ", " left 5", "\n", "left 5\n", "left 5\nleft 6", "x", "-5", "left", "left 5,left 6"):
            for word in ("put", "would", "reason"):
                expect(self, shell.run, (f"{word} pay {rest}",), {}, False, ParseError, None, rest)
            expect(self, shell.run, (f"open new {rest}",), {}, False, ParseError, None, rest)
        for rest in ("-", "left 5, left 5"):
            expect(self, shell.run, ("reason pay " + rest,), {}, False, ParseError, None, rest)
        self.assertEqual(shell.names, ("pay",))
        self.assertEqual(shell.run("undo pay " + "0"), "1")
        expect(self, shell.run, ("undo pay " + "1" * 40,), {}, False, NothingToUndo, "many", int("1" * 40))

    def test_errors_in_order(self):
        shell = shell_with(PAY, "put pay left 5", "open unlike left x; right u; x != u", *(f"copy pay {name}" for name in "abcdefgh"))
        before, log = Shell.of_log(shell.log), shell.log
        self.assertEqual([len(shell), MAX_KEEPERS], [10, 10])
        for line, kind, attribute, value in (
                ("held gone", UnknownName, "name", "gone"), ("close gone", UnknownName, "name", "gone"), ("question gone", UnknownName, "name", "gone"),
                ("copy gone pay", UnknownName, "name", "gone"), ("copy gone new", UnknownName, "name", "gone"), ("copy pay a", InvalidOperation, None, None),
                ("copy pay pay", InvalidOperation, None, None), ("copy pay new", TooMany, "limit", 10), ("join gone pay a", UnknownName, "name", "gone"),
                ("join pay gone a", UnknownName, "name", "gone"), ("join lost gone a", UnknownName, "name", "lost"),
                ("join pay unlike a", InvalidOperation, None, None), ("join pay unlike new", TooMany, "limit", 10),
                ("open pay wrong", InvalidOperation, None, None), ("open new wrong", TooMany, "limit", 10), ("open new left x; right u; x < u", TooMany, "limit", 10),
                ("put gone wrong", UnknownName, "name", "gone"), ("put pay wrong", ParseError, None, None), ("put pay zz 3", ParseError, None, None),
                ("would gone -", UnknownName, "name", "gone"), ("would pay left", ParseError, None, None), ("reason gone -", UnknownName, "name", "gone"),
                ("reason pay left", ParseError, None, None), ("reason pay left 6", InvalidOperation, None, None), ("few gone zz", UnknownName, "name", "gone"),
                ("few pay zz", UnknownName, "name", "zz"), ("paper pay zz", UnknownName, "name", "zz"), ("paper gone left", UnknownName, "name", "gone"),
                ("undo gone 9", UnknownName, "name", "gone"), ("undo pay 2", NothingToUndo, "many", 2), ("spare gone", UnknownName, "name", "gone"),
                ("part gone pay", UnknownName, "name", "gone"), ("part pay gone", UnknownName, "name", "gone"), ("part lost gone", UnknownName, "name", "lost"),
                ("part pay unlike", InvalidOperation, None, None)):
            expect(self, shell.run, (line,), {}, False, kind, attribute, value)
            self.assertEqual(shell.tried(line), "! " + kind.__name__)
            self.assertEqual([shell, shell.log], [before, log], line)
        shell.run("close h")
        expect(self, shell.run, ("open new wrong",), {}, False, ParseError, None, None)
        expect(self, shell.run, ("join pay unlike new",), {}, False, InvalidOperation, None, None)
        self.assertEqual(shell.run("join pay pay new"), "ok")

    def test_too_many(self):
        shell = shell_with("open s left x y; right u v; x < u & y < v", "put s " + stair_text(STAIR[:12]), "copy s t")
        expect(self, shell.run, ("put s " + stair_text(STAIR[12:]),), {}, False, TooMany, "limit", 12)
        expect(self, shell.run, ("put t right 1 2, " + stair_text(STAIR[12:]),), {}, False, TooMany, "limit", 12)
        for line in ("spare s", "part s t"):
            expect(self, shell.run, (line,), {}, False, TooMany, "limit", 6)
        self.assertEqual(len(shell.log), 3)
        shell.run("open other left x y; right u v; x < u & y < v")
        shell.run("put other left -1 99")
        expect(self, shell.run, ("join s other new",), {}, False, TooMany, "limit", 12)
        self.assertEqual([shell.names, shell.run("would s " + stair_text(STAIR[12:]))], [("other", "s", "t"), "quiet"])


class Shells(unittest.TestCase):
    def test_run_all(self):
        shell = Shell()
        self.assertEqual(shell.run_all(()), ())
        self.assertEqual(shell.run_all((PAY, "names", "put pay left 1, right 2")), ("ok", "pay", "rung"))
        with self.assertRaises(UnknownName):
            shell.run_all(("open b a x; b y; x < y", "put b a 3", "held gone", "put b a 4"))
        self.assertEqual([shell.run("held b"), len(shell.log)], ["a: 3; b: -", 4])
        with self.assertRaises(InvalidCommand):
            shell.run_all(("put b a 2", None, "put b a 1"))
        self.assertEqual([shell.run("held b"), len(shell.log)], ["a: 2; b: -", 5])
        for value in EVERY:
            if type(value) is not tuple:
                expect(self, shell.run_all, (value,), {}, False, InvalidCommand, None, value)
                expect(self, Shell.of_log, (value,), {}, False, InvalidCommand, None, value)
        for lines in ((PAY, None), ("names", "open"), ((),)):
            expect(self, Shell.of_log, (lines,), {}, False, InvalidCommand, None, lines)
        expect(self, Shell.of_log, ((PAY, PAY),), {}, False, InvalidOperation, None, None)
        self.assertEqual(Shell.of_log(()), Shell())

    def test_tried(self):
        shell = Shell()
        self.assertEqual([shell.tried(PAY), shell.tried("put pay left 1"), shell.tried("names")], ["ok", "quiet", "pay"])
        for line, name in (("put pay left", "ParseError"), ("held gone", "UnknownName"), ("undo pay 7", "NothingToUndo"), (None, "InvalidCommand"),
                           ("reason pay left 2", "InvalidOperation")):
            self.assertEqual(shell.tried(line), "! " + name)
        self.assertEqual(shell.log, (PAY, "put pay left 1"))
        self.assertTrue(issubclass(ParseError, RowsError) and not issubclass(InvalidNumber, RowsError))

    def test_log(self):
        """[18.2]: the log has what changed something and raised no error; another shell that runs it is equal."""
        source = random.Random(703)
        for at in range(25):
            shell, right = Shell(), []
            names = ["a", "b", "c", "gone"]
            for _ in range(40):
                name, other, new = (source.choice(names) for _ in range(3))
                word = source.choice(("open", "copy", "join", "close", "put", "put", "put", "undo", "names", "held", "would", "spare", "part", "few"))
                log = ", ".join(f"{source.choice(('left', 'right', 'zz') if source.randrange(4) == 0 else ('left', 'right'))} {source.randrange(9)}"
                                for _ in range(source.randrange(1, 4)))
                line = {"open": f"open {new} left x; right u; x {source.choice(('<', '!='))} u", "copy": f"copy {name} {new}",
                        "join": f"join {name} {other} {new}", "close": f"close {name}", "put": f"put {name} {log}", "would": f"would {name} {log}",
                        "undo": f"undo {name} {source.randrange(4)}", "names": "names", "held": f"held {name}", "spare": f"spare {name}",
                        "part": f"part {name} {other}", "few": f"few {name} left"}[word]
                if word == "close" and source.randrange(3):
                    continue
                answer = shell.tried(line)
                if not answer.startswith("!") and word in ("open", "copy", "join", "close", "put", "undo"):
                    right.append(line)
            self.assertEqual(shell.log, tuple(right))
            again = Shell.of_log(shell.log)
            self.assertEqual([again, again.log, again.names], [shell, shell.log, shell.names])
            for name in shell.names:
                self.assertEqual([again.run("held " + name), again.twin_of(name)], [shell.run("held " + name), shell.twin_of(name)])

    def test_ten_keepers_and_eleven(self):
        shell = Shell()
        for name in "abcdefghij":
            self.assertEqual(shell.run(f"open {name} left x; right u; x < u"), "ok")
        for line in ("open k left x; right u; x < u", "copy a k", "join a b k"):
            expect(self, shell.run, (line,), {}, False, TooMany, "limit", 10)
        self.assertEqual([shell.run("close a"), shell.run("copy b k"), len(shell)], ["ok", "ok", 10])
        self.assertEqual(shell.run("names"), "b c d e f g h i j k")

    def test_twins_and_equality(self):
        shell = shell_with(PAY, "put pay left 5")
        twin = shell.twin_of("pay")
        twin.put("left", (1,))
        self.assertEqual([shell.run("held pay"), twin.rows["left"], twin.undo(many=2)], ["left: 5; right: -", ((1,),), 0])
        for value in (*EVERY, "gone", "", "Pay", "names"):
            expect(self, shell.twin_of, (value,), {}, False, UnknownName, "name", value)
            self.assertNotIn(value, shell)
        self.assertIn("pay", shell)
        self.assertEqual([len(shell), str(shell), str(Shell()), len(Shell())], [1, "shell with 1 keepers", "shell with 0 keepers", 0])
        other = shell_with("open first left x; right u; x < u", "put first left 5", "copy first pay", "close first")
        self.assertEqual(shell, other)
        self.assertNotEqual(shell.log, other.log)
        for value in (*EVERY, Shell(), shell_with(PAY), shell_with(PAY, "put pay left 4"), shell_with(PAY, "put pay left 5", "copy pay b"),
                      shell_with("open pays left x; right u; x < u", "put pays left 5"), shell_with(PAY.replace("<", "!="), "put pay left 5")):
            self.assertFalse(shell == value)
            self.assertTrue(shell != value)
        self.assertEqual(Keeper.of_log(LESS, (("left", (5,)),)), shell.twin_of("pay"))
        self.assertNotEqual(Keeper(UNLIKE), shell.twin_of("pay"))

    def test_copies_go_on_by_themselves(self):
        shell = shell_with(PAY, "put pay left 5, left 3", "copy pay more", "put more left 1", "undo pay 1", "join pay more all", "put pay right 9")
        self.assertEqual([shell.run("held " + name) for name in shell.names], ["left: 1; right: -", "left: 1; right: -", "left: 5; right: 9"])
        self.assertEqual(shell.run("undo more 3"), "0")
        expect(self, shell.run, ("undo all 1",), {}, False, NothingToUndo, "many", 1)

    def test_words_as_names(self):
        shell = Shell()
        for name in ("open", "names", "self", "put"):
            shell.run(f"open {name} line u; self x; x < u")
            shell.run(f"put {name} self 3, line 2")
        self.assertEqual([shell.run("names"), shell.run("held open")], ["names open put self", "line: 2; self: 3"])
        self.assertEqual(shell.run("few self self"), "few")

    def test_greatest(self):
        shell = Shell()
        shell.run("open wide " + format_question(WIDE))
        source = random.Random(704)
        for _ in range(40):
            stream = source.choice(WIDE.streams)
            row = " ".join(str(source.randrange(-60, 60)) for _ in range(2))
            shell.tried(f"put wide {stream} {row}")
        for line in ("held wide", "paper wide left", "few wide right", "spare wide", "part wide wide", f"would wide left {FAR} -{FAR}"):
            self.assertIsInstance(shell.tried(line), str)
        log = ", ".join(["left 3 4"] * 200)
        self.assertIn(shell.tried("put wide " + log), ("rung", "quiet", "! TooMany"))
        self.assertEqual(shell.tried("put wide " + log + ", left 3 4"), "! ParseError")
        question = Question(("always",), left=("x",), right=("u",))
        self.assertEqual(shell.run("open new " + format_question(question)), "ok")


if __name__ == "__main__":
    unittest.main()
