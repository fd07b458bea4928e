"""The promises under holeshift/names.py."""

import unittest

from holeshift.errors import BadName
from holeshift.names import is_name, need_name
from tests.helper import Case, any_values

NAMES = ["a", "z", "till", "none", "any", "abcdefgh", "stuvwxyz", "zzzzzzzz"]
NO_NAMES = [
    "", "abcdefghi", "a" * 2000, "A", "tilL", "Till", "a1", "1", "a b", " a", "a ", "a\n", "\na", "a-b", "a_b", "a.b",
    "`", "{", "a{", "`a", "@", "[",
]


class TestNames(Case):
    def test_names(self):
        for name in NAMES:
            self.assertIs(is_name(name), True)
            self.assertIsNone(need_name(name))

    def test_one_to_eight_letters(self):
        for count in range(20):
            self.assertIs(is_name("q" * count), 1 <= count <= 8)

    def test_letters_from_a_to_z_alone(self):
        for number in range(32, 127):
            letter = chr(number)
            for text in (letter, "a" + letter, letter + "a", "abcdefg" + letter):
                self.assertIs(is_name(text), letter in "abcdefghijklmnopqrstuvwxyz", text)

    def test_no_names(self):
        for text in NO_NAMES:
            self.assertIs(is_name(text), False)
            self.assert_raises(BadName(text), need_name, text)

    def test_any_value(self):
        for value in any_values():
            if isinstance(value, str) and value in ("a", "none"):
                continue
            self.assertIs(is_name(value), False)
            error = self.assert_raises(BadName(value), need_name, value)
            self.assertIs(error.value, value)

    def test_by_name(self):
        self.assertIs(is_name(value="a"), True)
        self.assertIsNone(need_name(value="a"))
        self.assert_raises(BadName(1), need_name, value=1)


if __name__ == "__main__":
    unittest.main()
