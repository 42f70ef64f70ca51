"""What the tests of the written forms have in common."""

import random

from firsthand.errors import BadNotation

SIGNS = "abcdx019-+.,:;>/&()| \n"


def bad_line(parse, string):
    """The line of the BadNotation that is raised for the string, or None if it is a written form."""
    try:
        parse(string)
    except BadNotation as error:
        return error.line
    return None


def changed(rand, string):
    """The string with one sign taken away, doubled, replaced or put in, or two parts exchanged."""
    at = rand.randrange(len(string) + 1)
    kind = rand.randrange(5)
    if kind == 0:
        return string[:at] + string[at + 1:]
    if kind == 1:
        return string[:at] + string[at:at + 1] * 2 + string[at + 1:]
    if kind == 2:
        return string[:at] + rand.choice(SIGNS) + string[at + 1:]
    if kind == 3:
        return string[:at] + rand.choice(SIGNS) + string[at:]
    sign = rand.choice(" ,\n/|;")
    parts = string.split(sign)
    one, two = rand.randrange(len(parts)), rand.randrange(len(parts))
    parts[one], parts[two] = parts[two], parts[one]
    return sign.join(parts)


def check_changes(case, seed, strings, parse, write):
    """Whatever is read is written as it was; of each string with more lines the first bad line is told."""
    rand = random.Random(seed)
    good, bad = 0, 0
    for string in strings:
        for _ in range(40):
            other = changed(rand, string)
            for _ in range(rand.randrange(2)):
                other = changed(rand, other)
            line = bad_line(parse, other)
            if line is None:
                case.assertEqual(write(parse(other)), other)
                good += 1
                continue
            bad += 1
            lines = other.split("\n")
            case.assertIn(line, range(len(lines)))
            if line > 0:
                # The lines ahead of it can stand there: every written form begins with written forms.
                case.assertIsNone(bad_line(parse, "\n".join(lines[:line])), other)
            case.assertEqual(bad_line(parse, "\n".join(lines[:line + 1])), line)
            case.assertEqual(bad_line(parse, "\n".join(lines[:line + 1] + ["a"])), line)
    case.assertGreater(bad, good)
