"""lastingshares.texts: tables as texts, and the rate table."""

import unittest

from lastingshares.chains import Chain
from lastingshares.errors import BadText, NotJoined
from lastingshares.tables import Table
from lastingshares.texts import chain_from, rate_table, table_from, table_text
from support import CHAINS, GREAT, TABLES, check_error, complete, empty

WRONG_FIRST = [
    "", "states", "states ", "states 3 ", " states 3", "states  3", "states\t3", "states 1", "states 0", "states 9",
    "states 10", "states 03", "states 003", "states +3", "states -3", "states 3.0", "states 3 3", "State 3",
    "States 3", "3", "states three", "states \u0663", "states \u00b3", "states 3\r", "\nstates 3", "states 3\u2028",
    "states 2_", "state 3", "states\n3", "states 99999999999", "states 3\x0b",
]

WRONG_LATER = [
    "", " ", "0", "0 1", "0 1 ", "0 1 1 ", " 0 1 1", "0  1 1", "0 1  1", "0\t1\t1", "0 1 1 1", "0 1 0", "0 0 1",
    "1 1 1", "0 3 1", "3 0 1", "0 1 -1", "0 1 +1", "+0 1 1", "0 -1 1", "-1 0 1", "00 1 1", "0 01 1", "0 1 01",
    "0 1 00", "0 1 1.0", "0 1 a", "a 1 1", "0 1 1_0", "0 1 0x1", "0 \u0661 1", "0 1 \u0661", "\uff10 1 1", "0 1 \u00b2",
    "0 1 1\r", "0 1 1\x0c", "0,1,1", "states 3", "0 1 1\u20281 0 1", "0 1 1\x851 0 1", "0 10 1", "99999999999 1 1",
]


class Writing(unittest.TestCase):
    def test_each_table(self):
        for table in TABLES + GREAT:
            lines = table_text(table).split("\n")
            self.assertEqual(lines[0], f"states {table.size}")
            self.assertEqual(lines[1:], [f"{x} {y} {table[x, y]}" for x, y in table])

    def test_words(self):
        self.assertEqual(table_text(Table([[0, 2, 0], [1, 0, 30], [0, 0, 0]])), "states 3\n0 1 2\n1 0 1\n1 2 30")
        self.assertEqual(table_text(empty(8)), "states 8")
        self.assertEqual(table_text(complete(2) * 10 ** 12), "states 2\n0 1 1000000000000\n1 0 1000000000000")

    def test_a_chain_and_a_table_have_the_same_text(self):
        for chain in CHAINS[::7]:
            self.assertEqual(table_text(chain), table_text(Table(chain.rows)))


class Reading(unittest.TestCase):
    def test_a_text_gives_its_table(self):
        for table in TABLES + GREAT + [empty(8), complete(8)]:
            found = table_from(table_text(table))
            self.assertEqual(found, table)
            self.assertIs(type(found), Table)
            self.assertEqual(table_text(found), table_text(table))

    def test_a_text_gives_its_chain(self):
        for chain in CHAINS + [complete(8)]:
            found = chain_from(table_text(chain))
            self.assertEqual(found, chain)
            self.assertIs(type(found), Chain)

    def test_a_table_of_a_joined_text_is_no_chain(self):
        self.assertIs(type(table_from("states 2\n0 1 3\n1 0 4")), Table)

    def test_rates_of_thousands_of_digits(self):
        table = complete(2)
        for _ in range(500):
            table = table * 10 ** 12
        rate = "1" + "0" * 6000
        self.assertEqual(table_text(table), f"states 2\n0 1 {rate}\n1 0 {rate}")
        self.assertEqual(table_from(table_text(table)), table)
        self.assertEqual(rate_table(table), f"{'.':>6001} {rate}\n{rate} {'.':>6001}")

    def test_rates_about_the_ends_of_blocks_of_digits(self):
        for digits in (1, 2, 49, 50, 51, 99, 100, 101, 150):
            for rate in (10 ** (digits - 1), 10 ** digits - 1, 10 ** digits // 7 + 1, 10 ** (digits - 1) + 3):
                text = f"states 2\n1 0 {rate}"
                table = Table([[0, 0], [rate, 0]])
                self.assertEqual((table_text(table), table_from(text)), (text, table))


class WrongTexts(unittest.TestCase):
    def test_line_0(self):
        for line in WRONG_FIRST:
            for rest in ("", "\n0 1 1\n1 2 1\n2 0 1", "\nwrong"):
                with self.subTest(line + rest):
                    check_error(self, BadText(0), table_from, line + rest)
                    check_error(self, BadText(0), chain_from, line + rest)

    def test_later_lines(self):
        for line in WRONG_LATER:
            for start in ("states 3", "states 3\n0 1 1", "states 3\n0 1 1\n0 2 7\n1 0 5"):
                for end in ("", "\n2 1 1", "\nwrong"):
                    with self.subTest(start + line + end):
                        place = start.count("\n") + 1
                        check_error(self, BadText(place), table_from, f"{start}\n{line}{end}")
                        check_error(self, BadText(place), chain_from, f"{start}\n{line}{end}")

    def test_a_line_feed_at_the_end(self):
        check_error(self, BadText(1), table_from, "states 3\n")
        check_error(self, BadText(3), table_from, "states 2\n0 1 1\n1 0 1\n")
        check_error(self, BadText(3), table_from, "states 2\n0 1 1\n1 0 1\n\n")

    def test_pairs_out_of_order(self):
        for first, second in (("0 1", "0 1"), ("0 2", "0 1"), ("1 0", "0 2"), ("2 1", "2 0"), ("2 0", "1 2")):
            check_error(self, BadText(2), table_from, f"states 3\n{first} 4\n{second} 5")
            check_error(self, BadText(2), chain_from, f"states 3\n{first} 4\n{second} 5\n0 0 0")
        self.assertEqual(table_from("states 3\n2 1 4").rows, ((0, 0, 0), (0, 0, 0), (0, 4, 0)))
        check_error(self, BadText(3), table_from, "states 3\n0 1 1\n2 0 1\n1 0 1")

    def test_the_number_of_states_bounds_the_states(self):
        check_error(self, BadText(1), table_from, "states 2\n0 2 1")
        check_error(self, BadText(2), table_from, "states 8\n0 7 1\n7 8 1")
        self.assertEqual(table_from("states 8\n0 7 1")[0, 7], 1)

    def test_texts_that_are_not_joined(self):
        check_error(self, NotJoined((0,)), chain_from, "states 2")
        check_error(self, NotJoined((0, 1)), chain_from, "states 3\n0 1 2\n1 0 1\n2 1 5")
        check_error(self, BadText(3), chain_from, "states 3\n0 1 2\n1 0 1\n2 1 0")


class RateTables(unittest.TestCase):
    def test_the_table_of_the_document(self):
        table = table_from("states 3\n0 1 12\n2 0 4")
        self.assertEqual(rate_table(table), " . 12  0\n 0  .  0\n 4  0  .")

    def test_fields_of_one_width(self):
        for table in TABLES[::5] + GREAT + [empty(8), complete(8)]:
            width = max(len(str(rate)) for row in table.rows for rate in row)
            lines = rate_table(table).split("\n")
            self.assertEqual(len(lines), table.size)
            for x, line in enumerate(lines):
                entries = ["." if x == y else str(table[x, y]) for y in range(table.size)]
                self.assertEqual(line, " ".join(" " * (width - len(entry)) + entry for entry in entries))

    def test_one_digit(self):
        self.assertEqual(rate_table(complete(2)), ". 1\n1 .")
        self.assertEqual(rate_table(empty(2)), ". 0\n0 .")


if __name__ == "__main__":
    unittest.main()
