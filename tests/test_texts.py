import re
import unittest

from rulerow.errors import BadText
from rulerow.texts import read, written
from tests.samples import PRIMES, SOME_PRIMES, Odd, many_rows, no_lists, no_numbers, numbers

SIGNS = [chr(code) for code in range(128)]
PLAIN = re.compile(r"(0|[1-9][0-9]*):((?: (?:0|[1-9][0-9]*))*)", re.ASCII)


def plain_read(text):
    """What the text tells by point 8, or None."""
    match = PLAIN.fullmatch(text)
    if match is None or len(max(re.split("[: ]", text), key=len)) > 9:
        return None
    prime = int(match.group(1))
    row = [int(word) for word in match.group(2).split()]
    if prime not in PRIMES or not all(number < prime for number in row):
        return None
    return (prime, row)


def near(text):
    """The text with one sign put in, left out or changed."""
    for place in range(len(text) + 1):
        for sign in SIGNS:
            yield text[:place] + sign + text[place:]
            if place < len(text):
                yield text[:place] + sign + text[place + 1:]
        if place < len(text):
            yield text[:place] + text[place + 1:]
            yield text[:place] + text[place + 1:place + 2] + text[place:place + 1] + text[place + 2:]


class Texts(unittest.TestCase):
    def refused(self, text):
        with self.assertRaises(BadText) as caught:
            read(text)
        self.assertIs(type(caught.exception), BadText)

    def check(self, text):
        right = plain_read(text)
        if right is None:
            self.refused(text)
        else:
            self.assertEqual(read(text), right)
            self.assertEqual(written(*right), text)
        return right is not None


class Written(Texts):
    def test_texts_known_by_hand(self):
        self.assertEqual(written(7, [0, 1, 1]), "7: 0 1 1")
        self.assertEqual(written(7, []), "7:")
        self.assertEqual(written(7, [0]), "7: 0")
        self.assertEqual(written(2, [1, 0, 0, 1]), "2: 1 0 0 1")
        self.assertEqual(written(997, [996, 0, 10, 100]), "997: 996 0 10 100")

    def test_each_text_is_read_back(self):
        for prime, row in many_rows():
            text = written(prime, row)
            self.assertIs(type(text), str)
            self.assertEqual(text, str(prime) + ":" + "".join(" " + str(number) for number in row))
            told = read(text)
            self.assertIs(type(told), tuple)
            self.assertEqual(told, (prime, row))

    def test_each_prime(self):
        for prime in PRIMES:
            self.assertEqual(read(written(prime, [0, 1, prime - 1])), (prime, [0, 1, prime - 1]))

    def test_every_number(self):
        row = list(range(997))
        self.assertEqual(read(written(997, row)), (997, row))

    def test_a_long_row(self):
        row = numbers(997, 20000, 1)
        self.assertEqual(read(written(997, row)), (997, row))


class Read(Texts):
    def test_kinds(self):
        prime, row = read("7: 0 6")
        self.assertIs(type(prime), int)
        self.assertIs(type(row), list)
        self.assertTrue(all(type(number) is int for number in row))
        self.assertEqual(read(text="2:"), (2, []))

    def test_what_is_told_is_new(self):
        prime, row = read("7: 0 6")
        row.append(1)
        self.assertEqual(read("7: 0 6"), (7, [0, 6]))

    def test_what_is_no_text(self):
        for wrong in no_numbers() + no_lists() + [7, Odd(), (7, [0]), ["7:"], b"7: 0"]:
            if not isinstance(wrong, str):
                self.refused(wrong)

    def test_wrong_texts_known_by_hand(self):
        for text in [
            "", " ", ":", "7", "0", ": 1", " 7: 1", "7 : 1", "7:1", "7:1 2", "7: ", "7:  1", "7: 1 ", "7: 1  2",
            "7:: 1", "7: 1: 2", "7: 1:", "07: 1", "7: 01", "7: 00", "7: 0 00", "+7: 1", "-7: 1", "7: +1", "7: -1",
            "7: -0", "7: 1_0", "997: 1_0", "99_7: 1", "7: 1.0", "7: 1,2", "7: 1, 2", "7: 1e0", "7: 0x1", "7: a", "a: 1",
            "7: 1\n", "7:\n1", "7: 1\n2", "\n7: 1", "7: 1\r\n", "7:\t1", "7: 1\t2", "7: 1\x0b2", "7: 1\x0c2", "7:\n",
            "7: 1\x1f2", "7: 1\x002", "7: 1\x00", "7; 1", "7: True", "True: 1", "[7]: 1", "7: [1]", "7: 1 None",
            "7: '1'", "\"7: 1\"",
        ]:
            self.refused(text)

    def test_no_prime(self):
        for number in range(1200):
            if number not in PRIMES:
                self.refused(f"{number}:")
                self.refused(f"{number}: 0")

    def test_no_rests(self):
        for prime in SOME_PRIMES:
            for number in [prime, prime + 1, 10 * prime, 1000, 10 ** 20]:
                self.refused(f"{prime}: {number}")
                self.refused(f"{prime}: 0 {number}")
                self.refused(f"{prime}: {number} 0")

    def test_very_long_numbers(self):
        for figures in ["9" * 10000, "0" * 10000, "1" + "0" * 10000, "0" * 10000 + "1"]:
            self.refused(figures + ":")
            self.refused(figures + ": 1")
            self.refused("7: " + figures)
            self.refused("997: 1 " + figures + " 2")
            self.refused(figures)

    def test_needless_noughts(self):
        for prime in SOME_PRIMES:
            for number in [0, 1, prime - 1]:
                for noughts in ["0", "00", "0000"]:
                    self.refused(f"{prime}: {noughts}{number}")
                    self.refused(f"{noughts}{prime}: {number}")

    def test_one_sign_put_in_left_out_or_changed(self):
        taken = 0
        for text in ["7:", "2: 1", "7: 0 1 1", "11: 10 0 3", "997: 996 0 10", "101: 100"]:
            for other in near(text):
                taken += self.check(other)
        self.assertGreater(taken, 100)

    def test_two_texts_behind_one_another(self):
        for text in ["7:", "7: 1 2"]:
            for between in ["", " ", "\n", ":"]:
                self.refused(text + between + text)


if __name__ == "__main__":
    unittest.main()
