"""The merged text and the merged mark of a base cell that both sides have (points 9 and 11)."""

from tests.helper import CallCase, adopt, base, choose, conflicts, hide, merged, told, write


def apart(base_text, left_text, right_text):
    """Steps to one base cell that both sides have with these texts."""
    steps = [(base(base_text), 1)]
    for side, text in ((1, left_text), (2, right_text)):
        steps.append((write(side, 1, text), -7 if list(text) == list(base_text) else 0))
    return steps


class MergedText(CallCase):

    def merges(self, base_text, left_text, right_text, text):
        """No conflict, and this merged text, with left and right exchanged too."""
        for sides in ((left_text, right_text), (right_text, left_text)):
            self.check(*apart(base_text, *sides), (conflicts(), [0]), (merged(), told((1, 0, text))))

    def conflicts_at(self, base_text, left_text, right_text):
        """A text conflict, with left and right exchanged too, and what each choice takes."""
        for sides in ((left_text, right_text), (right_text, left_text)):
            steps = apart(base_text, *sides)
            self.check(
                *steps, (conflicts(), [1, 1, 1, 0]), (merged(), -11),
                (choose(1, 1, 1), 0), (merged(), told((1, 0, sides[0]))),
                (choose(1, 1, 2), 0), (merged(), told((1, 0, sides[1]))),
                (choose(1, 1, 3), 0), (merged(), told((1, 0, base_text))),
                (choose(1, 1, 0), 1), (merged(), -11))

    def test_unchanged(self):
        self.merges(b"a\nb", b"a\nb", b"a\nb", b"a\nb")

    def test_changed_on_one_side(self):
        self.merges(b"a\nb", b"a\nb", b"x", b"x")
        self.merges(b"a", b"a", b"", b"")
        self.merges(b"", b"", b"a\n", b"a\n")

    def test_changed_alike(self):
        self.merges(b"a\nb", b"x\nb", b"x\nb", b"x\nb")
        self.merges(b"a", b"", b"", b"")
        self.merges(b"a", [7] * 200, [7] * 200, [7] * 200)

    def test_the_example_of_the_document(self):
        self.merges(b"a\nb\nc\nd", b"a\nx\nc\nd", b"a\nb\nc\ny\nz", b"a\nx\nc\ny\nz")

    def test_changes_next_to_one_another(self):
        self.conflicts_at(b"a\nb\nc\nd", b"a\nx\nc\nd", b"a\nb\ny\nd")

    def test_same_line(self):
        self.conflicts_at(b"a", b"x", b"y")
        self.conflicts_at(b"a\nb\nc", b"a\nx\nc", b"a\ny\nc")
        self.conflicts_at(b"a\nb\nc", b"a\nx\nc", b"a\nc")

    def test_one_change_within_the_other(self):
        self.conflicts_at(b"a\nb\nc\nd\ne", b"a\nx\ny\nz\ne", b"a\nb\nq\nd\ne")

    def test_overlapping_changes(self):
        self.conflicts_at(b"a\nb\nc\nd\ne", b"x\ny\nc\nd\ne", b"a\np\nq\nd\ne")

    def test_first_and_last_line(self):
        self.merges(b"a\nb\nc", b"x\nb\nc", b"a\nb\ny", b"x\nb\ny")
        self.conflicts_at(b"a\nb", b"x\nb", b"a\ny")

    def test_just_one_line_lies_between(self):
        self.merges(b"a\nb\nc\nd\ne", b"a\nx\nc\nd\ne", b"a\nb\nc\ny\ne", b"a\nx\nc\ny\ne")

    def test_lines_put_in(self):
        self.merges(b"a", b"x\na", b"a\ny", b"x\na\ny")
        self.merges(b"a\nb\nc", b"a\nx\nb\nc", b"a\nb\ny\nz\nc", b"a\nx\nb\ny\nz\nc")
        self.conflicts_at(b"a\nb", b"a\nx\nb", b"a\ny\nb")
        self.conflicts_at(b"a\nb", b"a\nx\nb", b"a\nx\nx\nb")

    def test_line_put_in_next_to_a_changed_one(self):
        self.conflicts_at(b"a\nb\nc", b"a\nx\nb\nc", b"a\ny\nc")
        self.conflicts_at(b"a\nb\nc", b"a\nb\nx\nc", b"a\ny\nc")
        self.merges(b"a\nb\nc", b"a\nx\nb\nc", b"a\nb\ny", b"a\nx\nb\ny")

    def test_lines_taken_out(self):
        self.merges(b"a\nb\nc", b"b\nc", b"a\nb", b"b")
        self.merges(b"a\nb\nc\nd", b"a\nc\nd", b"a\nb\nc", b"a\nc")
        self.conflicts_at(b"a\nb\nc", b"a\nc", b"a\nb")

    def test_empty_lines(self):
        self.merges(b"a\n\nc", b"x\n\nc", b"a\n\ny", b"x\n\ny")
        self.merges(b"\n\n", b"x\n\n", b"\n\ny", b"x\n\ny")
        self.merges(b"a\nb\n", b"x\nb\n", b"a\nb\nc", b"x\nb\nc")

    def test_merged_text_may_be_one_empty_line(self):
        self.merges(b"a\n\nb", b"\nb", b"a\n", b"")

    def test_merged_text_of_two_hundred_and_of_two_hundred_and_one_bytes(self):
        longest = b"x" * 99 + b"\nb\n" + b"y" * 98
        self.assertEqual(len(longest), 200)
        self.merges(b"a\nb\nc", b"x" * 99 + b"\nb\nc", b"a\nb\n" + b"y" * 98, longest)
        self.conflicts_at(b"a\nb\nc", b"x" * 99 + b"\nb\nc", b"a\nb\n" + b"y" * 99)
        self.conflicts_at(b"a\nb\nc", b"x" * 196 + b"\nb\nc", b"a\nb\n" + b"y" * 196)

    def test_line_ends_count_among_the_two_hundred_bytes(self):
        self.merges(b"a", [10] * 99 + [97], [97] + [10] * 100, [10] * 99 + [97] + [10] * 100)
        self.conflicts_at(b"a", [10] * 100 + [97], [97] + [10] * 100)


class MergedMark(CallCase):

    def marks(self, base_mark, left_mark, right_mark, mark):
        steps = [(base(b"a"), 1)]
        if base_mark == 1:
            steps += [(hide(1, 1, 1), 0), (adopt(), 1)]
        for side, wanted in ((1, left_mark), (2, right_mark)):
            if wanted != base_mark:
                steps.append((hide(side, 1, wanted), 0))
        self.check(*steps, (conflicts(), [0]), (merged(), told((1, mark, b"a"))))

    def test_unchanged(self):
        self.marks(0, 0, 0, 0)
        self.marks(1, 1, 1, 1)

    def test_changed_on_one_side(self):
        self.marks(0, 1, 0, 1)
        self.marks(0, 0, 1, 1)
        self.marks(1, 0, 1, 0)
        self.marks(1, 1, 0, 0)

    def test_changed_on_both(self):
        self.marks(0, 1, 1, 1)
        self.marks(1, 0, 0, 0)

    def test_mark_on_one_side_and_text_on_the_other(self):
        self.check(
            (base(b"a", b"b"), 2), (hide(1, 1, 1), 0), (write(2, 1, b"x"), 0), (hide(2, 2, 1), 0),
            (write(1, 2, b"y"), 0), (conflicts(), [0]), (merged(), told((1, 1, b"x"), (2, 1, b"y"))))

    def test_choice_of_a_text_takes_no_mark(self):
        steps = apart(b"a", b"l", b"r") + [(hide(1, 1, 1), 0)]
        self.check(
            *steps, (choose(1, 1, 1), 0), (merged(), told((1, 1, b"l"))), (choose(1, 1, 2), 0),
            (merged(), told((1, 1, b"r"))), (choose(1, 1, 3), 0), (merged(), told((1, 1, b"a"))))
        steps = apart(b"a", b"l", b"r") + [(hide(2, 1, 1), 0)]
        self.check(
            *steps, (choose(1, 1, 1), 0), (merged(), told((1, 1, b"l"))), (choose(1, 1, 3), 0),
            (merged(), told((1, 1, b"a"))))
