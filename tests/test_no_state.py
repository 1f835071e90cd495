import unittest

from outlast.errors import NoState, OutlastError
from outlast.readers import read_program
from outlast.shorts import come_up_run, keep_run

PROGRAM = read_program("""a = order w arg
b = timer 10
c = child p 1
d = order w 2
if arg
while 1
e = wait a b
f = hear k
done
else
g = wait c d a b
done
send 0 key 1
drop a
h = hear l
end 1
""")

WAITS = ["at 4 0 0 0 0", "for 0 1", "now 100", "arg 5", "name a 0", "name b 1", "name e 7", "made 6", "open 0",
         "open 1",
         "open 2", "done 4 7", "done 3 -", "letter k 1", "letter k -", "letter m 2"]
HEARS = ["at 4 0 0 0 1", "now 100", "arg -", "name a 0", "name d 3", "made 4", "open 1", "open 2", "done 3 9",
         "letter l 1"]

GREATEST = 10 ** 9
LAST_MOMENT = 10 ** 12
OWN_WORDS = ("order timer child send drop wait hear if else done while end none arg now answer not").split()


def lines(rows):
    return "".join(row + "\n" for row in rows)


class Refusals(unittest.TestCase):
    def refused(self, text, program=PROGRAM):
        with self.assertRaises(OutlastError) as caught:
            come_up_run(program, text)
        self.assertIs(type(caught.exception), NoState, text)

    def refused_rows(self, rows, program=PROGRAM):
        self.refused(lines(rows), program)

    def comes_up(self, rows, program=PROGRAM):
        self.assertEqual(keep_run(come_up_run(program, lines(rows))), lines(rows))

    def swapped(self, rows, old, *new):
        # The rows with other ones in the place of one.
        self.assertEqual(rows.count(old), 1)
        at = rows.index(old)
        return rows[:at] + list(new) + rows[at + 1:]

    def refused_in_place(self, rows, old, *news):
        for new in news:
            self.refused_rows(self.swapped(rows, old, new))

    def come_up_in_place(self, rows, old, *news):
        for new in news:
            self.comes_up(self.swapped(rows, old, new))


class Lines(Refusals):
    def test_as_they_are_they_come_up(self):
        self.comes_up(WAITS)
        self.comes_up(HEARS)

    def test_each_left_out(self):
        for rows, needed in ((WAITS, WAITS[:4] + ["made 6", "open 0", "open 1"]), (HEARS, HEARS[:3] + ["made 4"])):
            for row in rows:
                if row in needed:
                    self.refused_rows(self.swapped(rows, row))
                else:
                    self.comes_up(self.swapped(rows, row))

    def test_each_told_twice(self):
        for rows in (WAITS, HEARS):
            for row in rows:
                if row.startswith("letter"):
                    self.comes_up(self.swapped(rows, row, row, row))
                else:
                    self.refused_rows(self.swapped(rows, row, row, row))

    def test_each_told_once_more_at_the_end_or_the_front(self):
        for rows in (WAITS, HEARS):
            for row in rows[:-1]:
                self.refused_rows(rows + [row])
                self.refused_rows([row] + rows)

    def test_each_exchanged_with_another_one(self):
        for rows in (WAITS, HEARS):
            for one in range(len(rows)):
                for other in range(one):
                    exchanged = list(rows)
                    exchanged[one], exchanged[other] = rows[other], rows[one]
                    if (rows[other], rows[one]) in (("done 4 7", "done 3 -"), ("letter k 1", "letter k -")):
                        self.comes_up(exchanged)
                    else:
                        self.refused_rows(exchanged)

    def test_each_moved_elsewhere(self):
        for rows in (WAITS, HEARS):
            for one in range(len(rows)):
                for other in range(len(rows)):
                    moved = rows[:one] + rows[one + 1:]
                    moved.insert(other, rows[one])
                    if moved == rows or {rows[one], rows[other]} in ({"done 4 7", "done 3 -"},
                                                                     {"letter k 1", "letter k -"}):
                        self.comes_up(moved)
                    else:
                        self.refused_rows(moved)

    def test_a_line_of_another_state_among_them(self):
        for rows in (WAITS, HEARS):
            for other in ("new", "worn", "ended 1", "ended -", "begin 0 1", "wait 0", "hear k", "at", "for", "x", "-",
                          "0"):
                for at in range(len(rows) + 1):
                    self.refused_rows(rows[:at] + [other] + rows[at:])
                self.refused_in_place(rows, rows[1], other)

    def test_the_same_head_with_other_words(self):
        for rows, row, others in (
            (WAITS, "now 100", ("now", "now -", "now 1 2", "now x", "now 100 -")),
            (WAITS, "arg 5", ("arg", "arg 1 2", "arg x", "arg none", "arg --5")),
            (WAITS, "name e 7", ("name", "name e", "name 7", "name e 7 7", "name 7 e", "name e e", "name e none")),
            (WAITS, "made 6", ("made", "made -", "made 6 6", "made x")),
            (WAITS, "open 2", ("open", "open -", "open 2 2", "open 2 -", "open c")),
            (WAITS, "done 4 7", ("done", "done 4", "done - 7", "done 4 7 7", "done d 7", "done 4 d")),
            (WAITS, "letter m 2", ("letter", "letter m", "letter 2", "letter m 2 2", "letter 2 m", "letter m m")),
            (WAITS, "for 0 1", ("for -", "for a b", "for 0 -", "for 0 x")),
            (WAITS, "at 4 0 0 0 0", ("at -", "at x", "at 4 0 0 0 x", "at 4 0 0 0 -")),
        ):
            self.refused_in_place(rows, row, *others)

    def test_heads_written_otherwise(self):
        for rows in (WAITS, HEARS):
            for row in rows:
                head, rest = row.split(" ", 1)
                if rows.count(row) == 1:
                    self.refused_in_place(rows, row, f"{head.upper()} {rest}", f"{head.title()} {rest}",
                                          f"{head}s {rest}", f"{head[:-1]} {rest}", f"{head}{rest}", f"{rest} {head}",
                                          rest, f"{head}\t{rest}", f"{head}_{rest}", f"{head}\r{rest}")


class Blanks(Refusals):
    def test_a_blank_more(self):
        for rows in (WAITS, HEARS, ["new"], ["worn"], ["ended 5"], ["ended -"]):
            for row in rows:
                self.refused_in_place(rows, row, " " + row, row + " ", row.replace(" ", "  ") + "  ", "  " + row)
                for at, sign in enumerate(row):
                    if sign == " ":
                        self.refused_in_place(rows, row, row[:at] + " " + row[at:])

    def test_an_empty_line(self):
        for rows in (WAITS, HEARS, ["new"], ["worn"], ["ended 5"]):
            for at in range(len(rows) + 1):
                self.refused_rows(rows[:at] + [""] + rows[at:])
                self.refused_rows(rows[:at] + [" "] + rows[at:])

    def test_no_last_line_feed(self):
        for rows in (WAITS, HEARS, ["new"], ["worn"], ["ended 5"]):
            self.refused(lines(rows)[:-1])

    def test_text_behind(self):
        for rows in (WAITS, HEARS, ["new"], ["worn"], ["ended 5"]):
            for behind in (" ", "x", "\r", "\t", "letter z 1", "letter", "new", "0"):
                self.refused(lines(rows) + behind)

    def test_text_ahead(self):
        for rows in (WAITS, HEARS, ["new"], ["worn"], ["ended 5"]):
            for ahead in (" ", "x", "\n", "-", "\ufeff"):
                self.refused(ahead + lines(rows))

    def test_another_end_of_line(self):
        for rows in (WAITS, HEARS, ["new"], ["ended 5"]):
            for end in ("\r\n", "\r", " \n", "\n\n", "\x0b", "\x0c", "\u2028", "\x85"):
                self.refused(end.join(rows) + end)

    def test_any_beginning(self):
        for rows, short in ((WAITS, 10), (HEARS, 6), (["ended -123"], 9)):
            text = lines(rows)
            for many in range(len(text)):
                if text[:many].endswith("\n") and text[:many].count("\n") >= short:
                    self.assertEqual(keep_run(come_up_run(PROGRAM, text[:many])), text[:many])
                else:
                    self.refused(text[:many])


class Numbers(Refusals):
    def test_written_otherwise(self):
        for rows, row, number in (
            (WAITS, "now 100", "100"), (WAITS, "arg 5", "5"), (WAITS, "name e 7", "7"), (WAITS, "made 6", "6"),
            (WAITS, "open 2", "2"), (WAITS, "done 4 7", "4"), (WAITS, "done 4 7", "7"), (WAITS, "letter m 2", "2"),
            (WAITS, "at 4 0 0 0 0", "4"), (WAITS, "for 0 1", "1"), (["ended 5"], "ended 5", "5"),
            (WAITS, "open 0", "0"), (WAITS, "for 0 1", "0"), (WAITS, "name a 0", "0"), (HEARS, "at 4 0 0 0 1", "1"),
        ):
            for other in ("0" + number, "00" + number, "+" + number, "-0" + number, "--" + number, number + "-",
                          number + ".0", number + "e0", number + "_0", "0x" + number, "", "-", "\u0663",
                          number + "\u00b2",
                          "\u0662", "\uff12", "1" * 5000, "-" + "1" * 5000, "0" * 5000, "True", "None", "none"):
                if other == "-" and row in ("arg 5", "done 4 7", "letter m 2", "ended 5") and number != "4":
                    continue
                words = row.split(" ")
                words[words.index(number)] = other
                self.refused_in_place(rows, row, " ".join(words))

    def test_below_nought(self):
        self.refused_in_place(WAITS, "now 100", "now -1", "now -100", "now -0")
        self.refused_in_place(WAITS, "made 6", "made -1", "made -6")
        self.refused_in_place(WAITS, "open 2", "open -1", "open -2")
        self.refused_in_place(WAITS, "open 0", "open -1")
        self.refused_in_place(WAITS, "done 4 7", "done -4 7", "done -1 7")
        self.refused_in_place(WAITS, "for 0 1", "for -1 0", "for 0 -1")
        self.refused_in_place(WAITS, "at 4 0 0 0 0", "at -4 0 0 0 0", "at 4 -1 0 0 0", "at 4 0 -1 0 0", "at 4 0 0 0 -2",
                              "at -8 0 0 0 0", "at 4 -2 0 0 0")

    def test_moments(self):
        self.come_up_in_place(WAITS, "now 100", "now 0", "now 1", f"now {LAST_MOMENT}")
        self.refused_in_place(WAITS, "now 100", f"now {LAST_MOMENT + 1}", f"now {LAST_MOMENT * 10}", "now -0")

    def test_worths(self):
        for rows, row, head in ((WAITS, "arg 5", "arg"), (WAITS, "name e 7", "name e"), (WAITS, "done 4 7", "done 4"),
                                (WAITS, "letter m 2", "letter m"), (["ended 5"], "ended 5", "ended")):
            self.come_up_in_place(rows, row, *[f"{head} {worth}" for worth in (0, 1, -1, GREATEST, -GREATEST)])
            self.refused_in_place(rows, row, *[f"{head} {worth}" for worth in (GREATEST + 1, -GREATEST - 1, 10 ** 10,
                                                                               -10 ** 10, 10 ** 40, "-0")])

    def test_made(self):
        self.come_up_in_place(WAITS, "made 6", "made 5", "made 7", f"made {GREATEST}")
        self.refused_in_place(WAITS, "made 6", "made 4", "made 0", f"made {GREATEST + 1}", f"made {10 ** 20}")


class Places(Refusals):
    def test_those_of_the_waits_and_hears(self):
        rests = {"wait": WAITS[1:], "hear": ["now 1", "arg -", "made 0"]}
        found = {"4 0 0 0 0": "wait", "4 0 0 0 1": "hear", "4 1 0": "wait", "7": "hear"}
        for place, kind in found.items():
            self.comes_up(["at " + place] + rests[kind])
        self.assertEqual(come_up_run(PROGRAM, lines(["at 4 1 0"] + WAITS[1:])).waits(), ("wait", (0, 1)))
        self.assertEqual(come_up_run(PROGRAM, lines(["at 7"] + rests["hear"])).waits(), ("hear", "l"))

    def test_to_another_statement(self):
        for place in ("0", "1", "2", "3", "4", "4 0 0", "5", "6", "8"):
            for rest in (WAITS[1:], ["now 1", "arg -", "made 0"]):
                self.refused_rows(["at " + place] + rest)

    def test_to_nothing(self):
        for place in ("9", "10", "1000000", "4 0", "4 1", "4 0 0 0", "4 0 1", "4 0 0 0 2", "4 1 1", "4 1 2", "4 2 0",
                      "4 3 0",
                      "4 0 0 1 0", "4 0 0 2 0", "4 0 0 0 0 0", "4 0 0 0 0 0 0", "4 1 0 0", "4 1 0 0 0", "4 0 0 0 1 0 0",
                      "0 0 0", "0 1 0", "7 0", "7 0 0", "7 1 0", "5 0 0", "9 0 0", "4 0 1 0 0", "4 4 0",
                      f"{GREATEST}", f"{10 ** 30}", "0 " * 3000 + "0"):
            for rest in (WAITS[1:], ["now 1", "arg -", "made 0"]):
                self.refused_rows(["at " + place] + rest)

    def test_no_place(self):
        for rest in (WAITS[1:], ["now 1", "arg -", "made 0"]):
            self.refused_rows(["at"] + rest)
            self.refused_rows(["at "] + rest)

    def test_into_a_second_block_without_statements(self):
        program = read_program("if 1\na = hear k\ndone\nwhile 1\nb = hear k\ndone\n")
        rest = ["now 0", "arg -", "made 0"]
        self.comes_up(["at 0 0 0"] + rest, program)
        self.comes_up(["at 1 0 0"] + rest, program)
        for place in ("0 1 0", "1 1 0", "0 2 0", "1 0 1", "1 0", "0", "1", "2"):
            self.refused_rows(["at " + place] + rest, program)

    def test_what_stands_in_a_statement_is_no_block(self):
        program = read_program("a = wait answer 1 2\nsend 1 k 2\nb = order w 1\nc = hear k\n")
        rest = ["now 0", "arg -", "made 1", "open 0"]
        for place in ("0 0 0", "0 0 1", "1 0 0", "1 1 0", "2 0 0", "2 1 0", "3 0 0"):
            self.refused_rows(["at " + place] + rest, program)
            self.refused_rows(["at " + place, "for 0"] + rest, program)

    def test_in_a_program_without_statements(self):
        for place in ("0", "0 0 0", "1"):
            self.refused_rows(["at " + place, "now 0", "arg -", "made 0"], ())

    def test_with_another_program(self):
        self.refused_rows(WAITS, read_program("a = hear k\n"))
        self.refused_rows(HEARS, ())


class Waiting(Refusals):
    def test_a_wait_needs_its_tickets(self):
        self.refused_rows(self.swapped(WAITS, "for 0 1"))
        self.refused_in_place(WAITS, "for 0 1", "for")

    def test_a_hear_has_none(self):
        for row in ("for", "for 1", "for 1 2", "for 0"):
            self.refused_rows(HEARS[:1] + [row] + HEARS[1:])

    def test_one_to_four(self):
        rows = self.swapped(self.swapped(WAITS, "open 2", "open 2", "open 3", "open 5"), "done 3 -")
        self.come_up_in_place(rows, "for 0 1", "for 0", "for 5", "for 0 5", "for 1 2 3", "for 0 1 2 3", "for 1 2 3 5")
        self.refused_in_place(rows, "for 0 1", "for 0 1 2 3 5")

    def test_not_open(self):
        # Done, made and dropped, not made at all.
        self.refused_in_place(WAITS, "for 0 1", "for 3", "for 4", "for 5", "for 6", "for 0 3", "for 0 1 4", "for 0 5",
                              "for 3 4", f"for {GREATEST}", "for 0 1 2 3")

    def test_not_rising(self):
        self.refused_in_place(WAITS, "for 0 1", "for 1 0", "for 0 0", "for 0 0 1", "for 0 1 1", "for 0 2 1",
                              "for 2 0 1")

    def test_a_letter_of_the_key_that_it_hears(self):
        for rows in (["letter k 1"], ["letter k -"], ["letter a 1", "letter k 1", "letter l 1"],
                     ["letter k 1", "letter k 2"]):
            self.refused_rows(HEARS[:-1] + rows)
            self.comes_up(["at 7"] + HEARS[1:-1] + [row for row in rows if row != "letter l 1"])
        self.refused_rows(["at 7"] + HEARS[1:])


class TicketsNamesAndKeys(Refusals):
    def test_not_below_made(self):
        self.refused_in_place(WAITS, "open 2", "open 6", "open 7", f"open {GREATEST}")
        self.refused_in_place(WAITS, "done 4 7", "done 6 7", "done 7 7", f"done {GREATEST} 7")
        self.refused_in_place(WAITS, "done 3 -", "done 6 -")
        self.come_up_in_place(WAITS, "open 2", "open 5")
        self.come_up_in_place(WAITS, "done 4 7", "done 5 7")
        greatest = self.swapped(WAITS, "made 6", f"made {GREATEST}")
        self.come_up_in_place(greatest, "open 2", f"open {GREATEST - 1}")
        self.refused_in_place(greatest, "open 2", f"open {GREATEST}", f"open {GREATEST + 1}")

    def test_both_open_and_done(self):
        self.refused_in_place(WAITS, "open 2", "open 3", "open 4")
        self.refused_in_place(WAITS, "done 4 7", "done 2 7", "done 0 7")

    def test_twice(self):
        self.refused_in_place(WAITS, "done 4 7", "done 3 7", "done 3 -")
        self.refused_in_place(WAITS, "open 2", "open 1", "open 0")

    def test_open_ones_not_rising(self):
        self.refused_rows(self.swapped(self.swapped(WAITS, "open 0"), "open 2", "open 2", "open 0"))
        self.refused_rows(self.swapped(self.swapped(WAITS, "open 1"), "open 2", "open 2", "open 1"))
        self.refused_in_place(WAITS, "open 2", "open 0")

    def test_done_ones_need_not_rise(self):
        self.comes_up(HEARS[:-2] + ["done 3 1", "done 0 1"])
        self.comes_up(HEARS[:-2] + ["done 0 1", "done 3 1"])

    def test_names_not_rising(self):
        self.refused_rows(self.swapped(self.swapped(WAITS, "name a 0"), "name b 1", "name b 1", "name a 0"))
        self.refused_in_place(WAITS, "name b 1", "name a 1", "name a 0", "name e 1", "name f 1", "name h 1")
        self.come_up_in_place(WAITS, "name b 1", "name c 1", "name d 1")

    def test_names_given_by_no_statement(self):
        self.refused_in_place(WAITS, "name e 7", "name i 7", "name z 7", "name k 7", "name l 7", "name p 7", "name w 7",
                              "name key 7", "name bb 7")
        self.come_up_in_place(WAITS, "name e 7", "name c 7", "name d 7", "name f 7", "name g 7", "name h 7")
        program = read_program("a = hear k\nsend x k y\ndrop z\nif v\nwhile w\ndone\ndone\nend u\n")
        for name in "bkuvwxyz":
            self.refused_rows(["at 0", "now 0", "arg -", f"name {name} 1", "made 0"], program)
        self.comes_up(["at 0", "now 0", "arg -", "name a 1", "made 0"], program)

    def test_names_without_a_worth(self):
        self.refused_in_place(WAITS, "name e 7", "name e -", "name e")
        self.refused_in_place(WAITS, "name a 0", "name a -")

    def test_what_is_no_name(self):
        for name in OWN_WORDS + ["A", "a1", "abcdefg", "-", "_", "\u00e9", "a.b", "1", ""]:
            self.refused_in_place(WAITS, "name e 7", f"name {name} 7")
            self.refused_in_place(WAITS, "letter m 2", f"letter {name} 2")

    def test_keys_not_rising(self):
        self.refused_in_place(WAITS, "letter m 2", "letter j 2", "letter a 2", "letter jz 2")
        self.refused_rows(WAITS + ["letter k 1"])
        self.refused_rows(WAITS + ["letter l 1"])
        self.come_up_in_place(WAITS, "letter m 2", "letter k 2", "letter ka 2", "letter z 2")
        self.comes_up(WAITS + ["letter m 2"])
        self.comes_up(WAITS + ["letter ma 2", "letter n 1"])


class ShortOnes(Refusals):
    def test_ended(self):
        for text in ("ended\n", "ended \n", "ended x\n", "ended 1 2\n", "ended none\n", "ended 5 \n", "ended  5\n",
                     "end 5\n",
                     "ended 05\n", "ended +5\n", "ended -0\n", "ended -5-\n", f"ended {GREATEST + 1}\n", "ended -\n\n",
                     "ended -\nended -\n", "ended 5\nworn\n", "ended 5\nnew\n", "ended 5\nat 0\n"):
            self.refused(text)

    def test_new_and_worn(self):
        for word in ("new", "worn"):
            for text in (f"{word} -\n", f"{word} 0\n", f"{word}\n{word}\n", f"{word} \n", f" {word}\n", f"{word}",
                         f"{word}\nx",
                         f"{word.upper()}\n", f"{word}\nnow 0\n", f"{word}\narg -\n", f"{word}s\n", f"{word}\n\n"):
                self.refused(text)

    def test_any_other_text(self):
        for text in ("", "\n", "\n\n", " ", " \n", "x", "x\n", "wait 0\n", "hear k\n", "at\n", "at 0\n", "for 0\n",
                     "now 0\n",
                     "arg -\n", "made 0\n", "open 0\n", "done 0 1\n", "letter k 1\n", "name a 1\n", "begin 0 1\n",
                     "-\n", "0\n",
                     "\x00", "\x00\n", "\u00e9\n", "('new',)\n", "state\n", "a = hear k\n", "new\u2028", "\ud800\n",
                     "now\n",
                     "at 7\nnow 0\narg -\n", "at 7\nnow 0\nmade 0\n", "at 7\narg -\nmade 0\n",
                     "now 0\narg -\nmade 0\n"):
            for program in (PROGRAM, ()):
                self.refused(text, program)


if __name__ == "__main__":
    unittest.main()
