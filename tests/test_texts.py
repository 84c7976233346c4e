"""[21] and [22]: how a book is written, and which texts are read."""

import random
import unittest

from helper import made_deed, snapshot
from ringcede.book import Book, read_book
from ringcede.errors import BadText, Nothing, RingError
from test_book import DEEDS, all_deeds, done

ROWS = (
    "ring 3",
    "sign share 0 50 10 60 10 20 1:1 2:2",
    "sign layer 1 5 24 120 0 99 0:1",
    "sign stop 2 30 5 1:3 0:2",
    "happen 15",
    "happen 12",
    "lose 0 0 30",
    "lose 1 1 20",
    "lose 1 2 80",
    "close",
    "end 0 16",
    "shift 0 16",
    "amend 1 4",
    "move 2 0",
    "close",
    "strike 2",
    "merge 1 0",
    "close",
    "happen 99",
)
TEXT = "\n".join(ROWS)
# Rows that are refused wherever they stand behind the first.
NO_ROWS = (
    "", " ", "ring 3", "ring", "rings 3", "back", "again", "close 0", "closes", "Close", "0", "-", ":", "happen",
    "happen ", "happen a", "happen -1", "happen +1", "happen 01", "happen 00", "happen 1 2", "happen 100", "happen 1.0",
    "happen 1_0", "happen 1:1", "happen\t1", "happen  1", " happen 1", "happen 1 ", "HAPPEN 1", "happen 0x1",
    "happen 1,2",
    "sign", "sign ", "sign share", "sign stop", "sign stop 2 30 5", "sign stop 2 30 1:3", "sign stop 2 30 5 0 1:3",
    "sign cover 2 30 5 1:3", "sign 2 30 5 1:3", "stop 2 30 5 1:3", "sign stop 1:3 2 30 5", "sign stop 2 30 5 1:3 0",
    "sign stop 2 30 5 1:3:0", "sign stop 2 30 5 1:", "sign stop 2 30 5 :1", "sign stop 2 30 5 :",
    "sign stop 2 30 5 1;3",
    "sign stop 2 30 5 1 3", "sign stop 2 30 5 1:3,0:2", "sign stop 2 30 5 01:3", "sign stop 2 30 5 1:03",
    "sign stop 2 30 5 1:-3", "sign stop 02 30 5 1:3", "sign stop 2 30 05 1:3", "sign stop 2 30 5 (1,3)",
    "sign stop 2 30 5 1 :3", "sign stop 2 30 5 1:3  0:2", "sign stop 2 30 5 1:3 0:2 ", "sign  stop 2 30 5 1:3 0:2",
    "sign stop 2 30 5 1:3 1:2", "sign stop 2 30 5 2:3", "sign stop 2 30 5 3:3", "sign stop 2 30 5 1:21",
    "sign stop 2 30 0 1:3", "sign stop 2 30 25 1:3", "sign stop 2 201 5 1:3", "sign stop 3 30 5 1:3",
    "sign share 0 50 10 60 10 1:1", "sign share 0 50 10 60 10 20", "sign share 0 50 10 60 10 20 5 1:1",
    "sign share 0 50 10 60 20 10 1:1", "sign share 0 50 10 121 10 20 1:1", "sign share 0 0 10 60 10 20 1:1",
    "sign share 0 50 10 60 10 100 1:1", "end 0", "end 0 16 0", "end 9 5", "shift 9 5", "lose 0 0", "lose 0 0 1 1",
    "lose 9 0 1", "lose 0 3 1", "lose 0 0 0", "lose 0 0 101", "amend 99 1", "strike 99", "move 99 0", "merge 9 9",
    "merge 0", "happen " + "9" * 150, "happen " + "1" * 300, "happen " + "1" * 5000,
    "lose " + "9" * 60 + " 0 1", "x" * 200, "x" * 201,
)


def spoilt(row):
    """Rows near this one that no book has in its place."""
    told = [row + " ", " " + row, row + " 0 0", row + "x", row.replace(" ", "  ", 1) + " ", row.upper(), row + "\n"]
    things = row.split(" ")
    for place in range(len(things)):
        told.append(" ".join(things[:place] + [things[place], ""] + things[place + 1:]))
        if place > 0:
            told.append(" ".join(things[:place] + ["0" + things[place]] + things[place + 1:]))
            told.append(" ".join(things[:place] + ["-" + things[place]] + things[place + 1:]))
            told.append(" ".join(things[:place] + ["+" + things[place]] + things[place + 1:]))
    if ":" not in row:
        told += [row + " 0"] + [" ".join(things[:place] + things[place + 1:]) for place in range(len(things))]
    return told


class TextsCase(unittest.TestCase):

    def assert_refuses(self, row, text):
        with self.subTest(text=text):
            with self.assertRaises(BadText) as caught:
                read_book(text)
            self.assertEqual(caught.exception.row, row)
            self.assertIs(type(caught.exception.row), int)


class TextTest(TextsCase):

    def test_each_kind_of_deed(self):
        book = Book(3)
        self.assertEqual(book.text(), "ring 3")
        for number, (deed, told) in enumerate(DEEDS):
            book.do(deed)
            self.assertEqual(book.text(), "\n".join(ROWS[:number + 2]))

    def test_the_count_of_houses(self):
        for houses in range(1, 7):
            self.assertEqual(Book(houses).text(), f"ring {houses}")

    def test_nothing_that_was_taken_back(self):
        book = done(all_deeds())
        for many in range(len(ROWS), 1, -1):
            self.assertEqual(book.text(), "\n".join(ROWS[:many]))
            book.back()
        self.assertEqual(book.text(), "ring 3")
        book.again()
        self.assertEqual(book.text(), "\n".join(ROWS[:2]))

    def test_nothing_that_was_refused(self):
        book = done(all_deeds())
        for deed in (("happen", 100), ("lose", 9, 9, 9), ("happen",), ()):
            self.assertRaises(RingError, book.do, deed)
        self.assertEqual(book.text(), TEXT)


class ReadTest(TextsCase):

    def assert_reads(self, text, deeds, ring):
        book = read_book(text)
        self.assertIsInstance(book, Book)
        self.assertEqual(book.text(), text)
        self.assertEqual(book.deeds(), deeds)
        self.assertEqual(snapshot(book.ring()), snapshot(ring))
        self.assertRaises(Nothing, book.again)
        return book

    def test_each_beginning(self):
        for many in range(1, len(ROWS) + 1):
            book = done(all_deeds()[:many - 1])
            self.assert_reads("\n".join(ROWS[:many]), book.deeds(), book.ring())

    def test_a_book_that_is_read_goes_on(self):
        book = self.assert_reads(TEXT, all_deeds(), done(all_deeds()).ring())
        self.assertEqual(book.back(), ("happen", 99))
        self.assertEqual(book.back(), ("close",))
        self.assertEqual(book.text(), "\n".join(ROWS[:-2]))
        self.assertEqual(book.do(("happen", 4)), 2)
        self.assertEqual(book.text(), "\n".join(ROWS[:-2]) + "\nhappen 4")

    def test_each_is_a_book_of_its_own(self):
        one, other = read_book(TEXT), read_book(TEXT)
        one.back()
        self.assertEqual(other.text(), TEXT)

    def test_books_by_chance(self):
        for seed in range(15):
            chance = random.Random(seed)
            book = Book(chance.randint(2, 6))
            for number in range(60):
                try:
                    book.do(made_deed(chance, book.ring()))
                except RingError:
                    pass
            if seed % 3 == 0:
                book.back()
            self.assert_reads(book.text(), book.deeds(), book.ring())

    def test_the_first_row(self):
        for houses in range(1, 7):
            self.assertEqual(read_book(f"ring {houses}").ring().houses(), houses)
        for row in (
            "", " ", "ring", "ring ", "ring 0", "ring 7", "ring 8", "ring 10", "ring 03", "ring 3 ", " ring 3", "ring  3",
            "ring 3 3", "ring -3", "ring +3", "ring three", "Ring 3", "rings 3", "ring3", "ring\t3", "3", "3 ring",
            "happen 5", "close", "ring 3:1", "ring 3.", "ring " + "3" * 190, "ring " + "0" * 300, "ring " + "3" * 5000,
        ):
            self.assert_refuses(0, row)
            self.assert_refuses(0, row + "\n" + "\n".join(ROWS[1:]))
            self.assert_refuses(0, row + "\nno row")

    def test_blanks_and_line_feeds_at_the_ends(self):
        last = len(ROWS) - 1
        self.assert_refuses(0, "\n")
        self.assert_refuses(0, "\n" + TEXT)
        self.assert_refuses(0, " " + TEXT)
        self.assert_refuses(last, TEXT + " ")
        self.assert_refuses(last + 1, TEXT + "\n")
        self.assert_refuses(last + 1, TEXT + "\n\n")
        self.assert_refuses(1, "ring 3\n")
        self.assert_refuses(1, "ring 3\n\nhappen 5")
        self.assert_refuses(2, "ring 3\nhappen 5\n")

    def test_each_row_spoilt_in_turn(self):
        for number, row in enumerate(ROWS):
            for other in spoilt(row):
                place = number + (1 if other.endswith("\n") else 0)
                self.assert_refuses(place, "\n".join(ROWS[:number] + (other,) + ROWS[number + 1:]))

    def test_a_row_that_no_place_has(self):
        for row in NO_ROWS:
            for place in (1, 9, len(ROWS)):
                self.assert_refuses(place, "\n".join(ROWS[:place] + (row,) + ROWS[place:]))

    def test_the_first_of_several(self):
        self.assert_refuses(2, "ring 3\nhappen 5\nhappen 100\nno row")
        self.assert_refuses(2, "ring 3\nhappen 5\nno row\nhappen 100")
        self.assert_refuses(1, "ring 3\nlose 0 0 5\nhappen 5")
        self.assert_refuses(0, "ring 7\nno row")

    def test_a_deed_that_is_refused_behind_those_ahead(self):
        ten = ["ring 3"] + ["sign stop 2 30 5 1:3"] * 10
        self.assertEqual(read_book("\n".join(ten)).text(), "\n".join(ten))
        self.assert_refuses(11, "\n".join(ten + ["sign stop 2 30 5 1:3", "close"]))
        twelve = ["ring 1"] + ["happen 7"] * 12
        self.assert_refuses(13, "\n".join(twelve + ["happen 7"]))
        thirty = twelve + ["lose 11 0 100"] * 30
        self.assert_refuses(43, "\n".join(thirty + ["lose 0 0 1", "close"]))
        merged = "\n".join(thirty + ["merge 0 11", "strike 5", "happen 7", "lose 12 0 1"])
        self.assertEqual(read_book(merged).text(), merged)
        self.assert_refuses(45, "\n".join(thirty + ["merge 0 11", "strike 5", "move 5 0"]))
        self.assert_refuses(44, "\n".join(thirty + ["merge 0 11", "merge 11 0"]))
        self.assert_refuses(13, "\n".join(twelve + ["merge 3 3"]))
        self.assert_refuses(2, "ring 3\nsign stop 2 30 5 1:3\nend 0 5")
        self.assert_refuses(1, "ring 1\nsign stop 0 30 5 1:3")
        self.assert_refuses(1, "ring 2\nsign stop 0 30 5 2:3")

    def test_numbers_of_two_and_more_figures(self):
        rows = ["ring 2", "happen 10"]
        for loss in range(120):
            rows += [f"lose 0 0 {loss % 100 + 1}", f"strike {loss}"]
        text = "\n".join(rows)
        self.assertEqual(read_book(text).text(), text)
        self.assertEqual(read_book(text).deeds()[-1], ("strike", 119))


if __name__ == "__main__":
    unittest.main()
