"""A text's lines, a side's change of a text, and the merged text."""

from twobooks.cells import MOST_BYTES
from twobooks.threeway import agreed

LINE_END = 10


class Change:
    """The base lines from begin on up to, but without, end are replaced by the new lines."""

    def __init__(self, begin, end, new_lines):
        self.begin = begin
        self.end = end
        self.new_lines = new_lines


def lines_of(text):
    lines = [[]]
    for byte in text:
        if byte == LINE_END:
            lines.append([])
        else:
            lines[-1].append(byte)
    return lines


def text_of(lines):
    text = list(lines[0])
    for line in lines[1:]:
        text.append(LINE_END)
        text.extend(line)
    return text


def common_beginning(lines, others, most):
    """How many lines both have in common at the beginning, but at most so many."""
    common = 0
    while common < most and lines[common] == others[common]:
        common += 1
    return common


def change_of(base_text, side_text):
    base_lines = lines_of(base_text)
    side_lines = lines_of(side_text)
    shorter = min(len(base_lines), len(side_lines))
    begin = common_beginning(base_lines, side_lines, shorter)
    # A line that the beginning has in common is not counted once more at the end.
    kept = common_beginning(list(reversed(base_lines)), list(reversed(side_lines)), shorter - begin)
    return Change(begin, len(base_lines) - kept, side_lines[begin:len(side_lines) - kept])


def text_with_both(base_text, first, second):
    """The text with both changes done, the first one above the second; None if it's too long."""
    base_lines = lines_of(base_text)
    lines = base_lines[:first.begin] + first.new_lines
    lines = lines + base_lines[first.end:second.begin] + second.new_lines
    text = text_of(lines + base_lines[second.end:])
    return text if len(text) <= MOST_BYTES else None


def merged_text(base_text, left_text, right_text):
    """The merged text, or None where there is a text conflict."""
    text = agreed(base_text, left_text, right_text)
    if text is not None:
        return text
    left = change_of(base_text, left_text)
    right = change_of(base_text, right_text)
    if left.end < right.begin:
        return text_with_both(base_text, left, right)
    if right.end < left.begin:
        return text_with_both(base_text, right, left)
    return None
