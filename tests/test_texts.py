import inspect
import itertools
import unittest

from lodgefair.errors import BadText
from lodgefair.fairs import checked
from lodgefair.texts import read, shown
from tests.samples import STRANGE, crowded_fairs, larger_fairs, round_fair, small_fairs

FAIR = (((1, 0), (), (0, 1)), ((2, (0, 2, 1)), (0, ())))
TEXT = "guest 1 0\nguest\nguest 0 1\nhouse 2 0 2 1\nhouse 0\n"


def true_text(fair):
    """Point 14, word by word."""
    text = ""
    for wish in fair[0]:
        text += "guest" + "".join(f" {house}" for house in wish) + "\n"
    for rooms, listed in fair[1]:
        text += f"house {rooms}" + "".join(f" {guest}" for guest in listed) + "\n"
    return text


def all_fairs():
    return itertools.chain(small_fairs(), larger_fairs(300), crowded_fairs(30), (round_fair(5), FAIR))


# Signs of every sort that might slip in: blanks and line ends of other kinds, digits of other scripts.
SIGNS = "0123456789 \n\t\r\v\f+-_.,:#gGhu\0\x1c\x85\xa0\u2003\u2028\u0661\u00b2\uff11\ufeff"


class Shown(unittest.TestCase):
    def test_a_fair(self):
        self.assertEqual(shown(FAIR), TEXT)

    def test_the_smallest(self):
        self.assertEqual(shown((((),), ((0, ()),))), "guest\nhouse 0\n")

    def test_the_largest(self):
        fair = (((4, 3, 2, 1, 0),) * 5, ((5, (0, 1, 2, 3, 4)),) * 5)
        self.assertEqual(shown(fair), "guest 4 3 2 1 0\n" * 5 + "house 5 0 1 2 3 4\n" * 5)

    def test_every_fair_as_the_words_say(self):
        for fair in all_fairs():
            self.assertEqual(shown(fair), true_text(fair))
            self.assertIs(type(shown(fair)), str)


class Read(unittest.TestCase):
    def test_a_fair(self):
        self.assertEqual(read(TEXT), FAIR)

    def test_every_fair_is_read_to_the_same(self):
        for fair in all_fairs():
            told = read(true_text(fair))
            self.assertEqual(told, fair)
            self.assertIs(checked(told), told)
            self.assertEqual(read(shown(fair)), fair)

    def test_one_call_says_nothing_of_the_next(self):
        for _ in range(2):
            self.assertEqual(read("guest\nhouse 0\n"), (((),), ((0, ()),)))
            self.assertEqual(read(TEXT), FAIR)


class Refused(unittest.TestCase):
    def assert_refused(self, text):
        with self.assertRaises(BadText, msg=repr(text)):
            read(text)

    def assert_read_only_as_shown(self, text):
        try:
            fair = read(text)
        except BadText:
            return False
        self.assertIs(checked(fair), fair)
        self.assertEqual(true_text(fair), text)
        return True

    def test_things_that_are_no_texts(self):
        for thing in (None, 0, 1, (), FAIR, (TEXT,), [TEXT], TEXT.encode(), bytearray(TEXT.encode())):
            self.assert_refused(thing)
        for thing in STRANGE:
            self.assert_refused(thing)

    def test_empty_texts(self):
        for text in ("", " ", "\n", "\n\n", "guest", "house", "guest\n", "house 0\n", "guest\nguest\n", "house 0\nhouse 1\n"):
            self.assert_refused(text)

    def test_a_sign_left_out(self):
        for place in range(len(TEXT)):
            self.assert_refused(TEXT[:place] + TEXT[place + 1:])

    def test_a_sign_doubled(self):
        for place in range(len(TEXT)):
            self.assert_refused(TEXT[:place] + TEXT[place] + TEXT[place:])

    def test_a_sign_changed_or_slipped_in(self):
        taken = 0
        for place in range(len(TEXT) + 1):
            for sign in SIGNS:
                changed = TEXT[:place] + sign + TEXT[place + 1:]
                if changed != TEXT:
                    taken += self.assert_read_only_as_shown(changed)
                self.assert_refused(TEXT[:place] + sign + TEXT[place:])
        # House 0 has 0, 1, 3, 4 or 5 rooms instead, house 1 has 1 to 5.
        self.assertEqual(taken, 10)

    def test_a_line_left_out(self):
        text = "guest 0\nguest 1\nhouse 1 0 1\nhouse 2 1\n"
        for place in range(4):
            lines = text.splitlines(keepends=True)
            lines.pop(place)
            self.assert_refused("".join(lines))

    def test_a_line_doubled(self):
        text = "guest 0 1\n" * 5 + "house 2 4 3 2 1 0\n" * 5
        self.assertEqual(len(read(text)[0]), 5)
        self.assert_refused("guest 0 1\n" + text)
        self.assert_refused(text + "house 2 4 3 2 1 0\n")
        lines = TEXT.splitlines(keepends=True)
        for place in range(len(lines)):
            doubled = "".join(lines[:place + 1] + lines[place:])
            self.assertTrue(self.assert_read_only_as_shown(doubled))

    def test_lines_turned_about(self):
        guest, house = "guest 0\n", "house 1 0\n"
        self.assertEqual(read(guest + house), (((0,),), ((1, (0,)),)))
        self.assert_refused(house + guest)
        for lines in set(itertools.permutations((guest, guest, house, house))):
            if lines != (guest, guest, house, house):
                self.assert_refused("".join(lines))

    def test_lines_of_another_word(self):
        for line in ("\n", " \n", "hous 1\n", "Guest 0\n", "HOUSE 0\n", "room 1\n", "0\n", "guest0\n", "# guest\n", "guests\n"):
            self.assert_refused(line + TEXT)
            self.assert_refused(TEXT + line)
            self.assert_refused(TEXT.replace("house 0\n", line + "house 0\n"))
            self.assert_refused(TEXT.replace("guest\n", line))

    def test_numbers_with_a_sign_or_a_leading_zero(self):
        for number in ("+1", "-1", "-0", "+0", "01", "00", "1.0", "1_0", "0x1", "1e0", "one", "True", "None", "\u0661", "\u00b9"):
            self.assert_refused(f"guest {number}\nhouse 1 0\nhouse 1 0\n")
            self.assert_refused(f"guest 0\nhouse {number} 0\n")
            self.assert_refused(f"guest 0\nguest 0\nhouse 1 {number}\n")

    def test_numbers_beyond(self):
        for number in ("6", "7", "9", "10", "12", "55", "1" * 5000):
            self.assert_refused(f"guest {number}\nhouse 1 0\n")
            self.assert_refused(f"guest 0\nhouse {number} 0\n")
            self.assert_refused(f"guest 0\nhouse 1 {number}\n")
        self.assert_refused("guest 1\nhouse 1 0\n")
        self.assert_refused("guest 0\nhouse 1 1\n")
        self.assert_refused("guest 5\n" + "house 1 0\n" * 5)

    def test_numbers_twice(self):
        self.assert_refused("guest 0 0\nhouse 1 0\n")
        self.assert_refused("guest 0\nhouse 1 0 0\n")

    def test_no_rooms_told(self):
        self.assert_refused("guest\nhouse\n")
        self.assert_refused("guest 0\nguest 0\nhouse\n")

    def test_blanks(self):
        for text in (
            " guest 0\nhouse 1 0\n", "guest  0\nhouse 1 0\n", "guest 0 \nhouse 1 0\n", "guest 0\n house 1 0\n",
            "guest 0\nhouse  1 0\n", "guest 0\nhouse 1  0\n", "guest 0\nhouse 1 0 \n", "guest 0\nhouse 1 0\n ",
            "guest \nhouse 1 0\n", "guest\t0\nhouse 1 0\n", "guest 0\nhouse\t1 0\n", "guest 0\nhouse 1\t0\n",
            "guest\u00a00\nhouse 1 0\n", "guest 0\nhouse 1\u20030\n", "guest0\nhouse 1 0\n", "guest 0\nhouse 10\n",
        ):
            self.assert_refused(text)

    def test_line_ends(self):
        self.assert_refused(TEXT[:-1])
        self.assert_refused(TEXT + "\n")
        self.assert_refused("\n" + TEXT)
        self.assert_refused(TEXT.replace("house", "\nhouse", 1))
        for end in ("\r\n", "\r", "\n\r", "\v", "\f", "\x1c", "\x85", "\u2028", "\u2029", ";", " "):
            self.assert_refused(TEXT.replace("\n", end))
            self.assert_refused(TEXT[:-1] + end)
            self.assert_refused(TEXT.replace("\n", end, 1))

    def test_six_guests_or_houses(self):
        self.assert_refused("guest\n" * 6 + "house 1\n")
        self.assert_refused("guest\n" + "house 1\n" * 6)

    def test_what_is_refused_is_left_as_it_was(self):
        thing = [TEXT]
        self.assert_refused(thing)
        self.assertEqual(thing, [TEXT])

    def test_every_short_text_of_few_words(self):
        # Whatever is made of these parts is refused, or is just what is shown of what was read.
        parts = ("guest", "house", " ", "0", "1", "\n")
        taken = 0
        for count in range(8):
            for signs in itertools.product(parts, repeat=count):
                taken += self.assert_read_only_as_shown("".join(signs))
        self.assertEqual(taken, 2)


class TheInterface(unittest.TestCase):
    def test_the_arguments(self):
        self.assertEqual(list(inspect.signature(shown).parameters), ["fair"])
        self.assertEqual(list(inspect.signature(read).parameters), ["text"])


if __name__ == "__main__":
    unittest.main()
