"""Point 8: change, and with it a text's lines and a side's change of a text."""

from tests.helper import GREAT, CallCase, base, change, drop, hide, move, new, write


def told_change(begin, end, *lines):
    numbers = [begin, end, len(lines)]
    for line in lines:
        numbers += [len(line)] + list(line)
    return numbers


class Change(CallCase):

    def changed(self, base_text, side_text, begin, end, *lines):
        """From the base text to the side's text, on either side."""
        for side in (1, 2):
            same = list(base_text) == list(side_text)
            self.check(
                (base(base_text), 1), (write(side, 1, side_text), -7 if same else 0),
                (change(side, 1), told_change(begin, end, *lines)))

    def test_equal_texts(self):
        self.changed(b"", b"", 1, 1)
        self.changed(b"a", b"a", 1, 1)
        self.changed(b"a\nb", b"a\nb", 2, 2)
        self.changed(b"a\n", b"a\n", 2, 2)
        self.changed(b"\n\n", b"\n\n", 3, 3)

    def test_one_line(self):
        self.changed(b"a", b"b", 0, 1, b"b")
        self.changed(b"abc", b"abd", 0, 1, b"abd")

    def test_empty_text_is_one_empty_line(self):
        self.changed(b"", b"a", 0, 1, b"a")
        self.changed(b"a", b"", 0, 1, b"")
        self.changed(b"", b"\n", 1, 1, b"")
        self.changed(b"\n", b"", 1, 2)
        self.changed(b"", b"a\nb", 0, 1, b"a", b"b")

    def test_byte_ten_at_the_end_begins_an_empty_line(self):
        self.changed(b"A\n", b"A", 1, 2)
        self.changed(b"A", b"A\n", 1, 1, b"")
        self.changed(b"A\n", b"B\n", 0, 1, b"B")
        self.changed(b"A\n", b"A\nB", 1, 2, b"B")

    def test_byte_ten_at_the_beginning(self):
        self.changed(b"a", b"\na", 0, 0, b"")
        self.changed(b"\na", b"a", 0, 1)

    def test_two_bytes_ten_in_a_row(self):
        self.changed(b"a\nb", b"a\n\nb", 1, 1, b"")
        self.changed(b"a\n\nb", b"a\nb", 1, 2)
        self.changed(b"a\n\nb", b"a\nx\nb", 1, 2, b"x")
        self.changed(b"\n\n", b"\n", 2, 3)

    def test_the_examples_of_the_document(self):
        self.changed(b"a\nb\nc\nd", b"a\nx\nc\nd", 1, 2, b"x")
        self.changed(b"a\nb\nc\nd", b"a\nb\nc\ny\nz", 3, 4, b"y", b"z")
        self.changed(b"a\nb\nc\nd", b"a\nb\nx\nd", 2, 3, b"x")

    def test_lines_put_in(self):
        self.changed(b"a\nb", b"x\na\nb", 0, 0, b"x")
        self.changed(b"a\nb", b"a\nx\ny\nb", 1, 1, b"x", b"y")
        self.changed(b"a\nb", b"a\nb\nx", 2, 2, b"x")

    def test_lines_taken_out(self):
        self.changed(b"a\nb\nc", b"b\nc", 0, 1)
        self.changed(b"a\nb\nc", b"a\nc", 1, 2)
        self.changed(b"a\nb\nc", b"a", 1, 3)

    def test_first_and_last_line_alone_in_common(self):
        self.changed(b"a\nb\nc\nd", b"a\nx\nd", 1, 3, b"x")
        self.changed(b"a\nb\nc", b"x\nb\ny", 0, 3, b"x", b"b", b"y")

    def test_common_beginning_and_end_would_overlap(self):
        self.changed(b"a\na", b"a\na\na", 2, 2, b"a")
        self.changed(b"a\na\na", b"a\na", 2, 3)
        self.changed(b"a\na\na", b"a", 1, 3)
        self.changed(b"a", b"a\na\na", 1, 1, b"a", b"a")
        self.changed(b"a\nb\na", b"a\nb\na\nb\na", 3, 3, b"b", b"a")
        self.changed(b"a\nb\na\nb\na", b"a\nb\na", 3, 5)
        self.changed(b"a\nx\na", b"a\na", 1, 2)
        self.changed(b"a\na", b"a\nx\na", 1, 1, b"x")
        self.changed(b"a\nb\nb\nc", b"a\nb\nc", 2, 3)

    def test_equal_lines_at_unlike_places_are_not_in_common(self):
        self.changed(b"a\nb\nc", b"b\nc\na", 0, 3, b"b", b"c", b"a")

    def test_no_other_byte_ends_a_line(self):
        text = [byte for byte in range(200) if byte != 10]
        self.changed([200], text, 0, 1, text)
        self.changed(b"\r", b"\r\r", 0, 1, b"\r\r")

    def test_two_hundred_and_one_lines(self):
        self.changed([10] * 200, [10] * 200, 201, 201)
        self.changed([10] * 200, [7], 0, 201, [7])
        self.changed([7], [10] * 200, 0, 1, *[[]] * 201)
        self.changed([], [10] * 200, 1, 1, *[[]] * 200)
        self.changed([10] * 200, [], 1, 201)

    def test_longest_line(self):
        self.changed(b"", [255] * 200, 0, 1, [255] * 200)

    def test_mark_and_place_do_not_matter(self):
        self.check(
            (base(b"a", b"b\nc"), 2), (hide(1, 2, 1), 0), (move(1, 2, 0), 0), (change(1, 2), told_change(2, 2)),
            (write(1, 2, b"b"), 0), (change(1, 2), told_change(1, 2)), (change(2, 2), told_change(2, 2)),
            (change(1, 1), told_change(1, 1)))


class ChangeIsRefused(CallCase):

    STEPS = [(base(b"a", b"b", b"c"), 3), (new(1, 0, b"n"), 4), (drop(1, 2), 0), (drop(2, 3), 0), (write(1, 1), 0)]

    def test_no_side(self):
        for side in (0, 3, -1, GREAT, -GREAT):
            self.changes_nothing(self.STEPS, change(side, 1), -8)

    def test_no_cell_on_the_side(self):
        self.changes_nothing(self.STEPS, change(1, 2), -1)
        self.changes_nothing(self.STEPS, change(2, 3), -1)

    def test_no_cell_in_the_base(self):
        self.changes_nothing(self.STEPS, change(1, 4), -1)

    def test_no_cell_at_all(self):
        for number in (0, -1, 5, 99, 100, GREAT, -GREAT):
            self.changes_nothing(self.STEPS, change(1, number), -1)
            self.changes_nothing(self.STEPS, change(2, number), -1)
        self.changes_nothing(self.STEPS, change(2, 4), -1)

    def test_no_side_comes_first(self):
        for side in (0, 3, GREAT):
            self.changes_nothing(self.STEPS, change(side, 77), -8)

    def test_telling_changes_nothing(self):
        self.changes_nothing(self.STEPS, change(1, 1), told_change(0, 1, b""))
