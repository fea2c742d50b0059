"""Texts of tasks that the tests share."""

APART = (
    "task\nfirst x w\nsecond y z\ngiven x z ends a r\ngiven w y ends c q\n"
    "given x y ends a p\ngiven x y ends b p\ngiven x y ends b q")
ALIKE = (
    "task\nfirst o i\nsecond o i\ngiven o o ends o o\ngiven i i ends i i\ngiven o i ends o o\ngiven o i ends i i\n"
    "given i o ends o o\ngiven i o ends i i")
