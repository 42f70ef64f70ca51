import random
import unittest

from firsthand.forms import least_form
from tests.brute import ALPHABET, accepts, all_texts, lists_of, only_tuples, random_form, read_form


def is_least(form, width):
    """Point 9 word by word, with all texts that are long enough."""
    alphabet = ALPHABET[:width]
    texts = all_texts(alphabet, 2 * len(form))
    least = {}
    for text in texts:
        state = read_form(form, alphabet, text)
        if state is not None and state not in least:
            least[state] = len(least)
    if [least.get(state) for state in range(len(form))] != list(range(len(form))):
        return False
    langs = []
    for state in range(len(form)):
        ends = [read_form(form, alphabet, text, state) for text in texts]
        langs.append(tuple(end is not None and form[end][0] for end in ends))
    return all(any(lang) for lang in langs) and len(set(langs)) == len(langs)


class LeastFormTest(unittest.TestCase):
    def test_example(self):
        form = ((False, (1, 2)), (True, (None, 3)), (True, (None, None)), (False, (3, None)))
        self.assertEqual(least_form(form, width=2), ((False, (1, 1)), (True, (None, None))))

    def test_empty(self):
        self.assertEqual(least_form((), width=3), ())
        self.assertEqual(least_form(((False, (0, 0)),), width=2), ())
        self.assertEqual(least_form(((False, (None,)), (True, (1,))), width=1), ())

    def test_empty_text_alone(self):
        self.assertEqual(least_form(((True, (1, None)), (False, (1, 1))), width=2), ((True, (None, None)),))

    def test_only_ends(self):
        self.assertEqual(least_form(((True, (1, 1)), (True, (0, 1))), width=2), ((True, (0, 0)),))

    def test_numbering_follows_the_least_texts(self):
        form = ((False, (3, 1)), (True, (2, None)), (False, (1, 3)), (True, (None, None)))
        self.assertEqual(
            least_form(form, width=2),
            ((False, (1, 2)), (True, (None, None)), (True, (3, None)), (False, (2, 1))),
        )

    def test_random_forms(self):
        rand = random.Random(9)
        for _ in range(150):
            width = rand.choice((1, 2))
            form = random_form(rand, width, 4 if width == 2 else 6)
            alphabet = ALPHABET[:width]
            least = least_form(form, width=width)
            self.assertTrue(is_least(least, width), form)
            for text in all_texts(alphabet, 8):
                self.assertEqual(accepts(least, alphabet, text), accepts(form, alphabet, text), (form, text))
            self.assertEqual(least_form(least, width=width), least)

    def test_other_forms_of_the_same_set(self):
        rand = random.Random(10)
        for _ in range(100):
            form = random_form(rand, 3, 6)
            count = len(form)
            # Each state twice, the moves to either of the two, the twins shuffled behind state 0.
            places = [0] + rand.sample(range(1, 2 * count), 2 * count - 1) if count else []
            other = [None] * (2 * count)
            for state in range(2 * count):
                ends, moves = form[state % count]
                fresh = tuple(None if move is None else places[move + rand.choice((0, count))] for move in moves)
                other[places[state]] = (ends, fresh)
            self.assertEqual(least_form(tuple(other), width=3), least_form(form, width=3))

    def test_lists_and_tuples(self):
        form = ((False, (1, 2)), (True, (None, 3)), (True, (None, None)), (False, (3, None)))
        passed = lists_of(form)
        answer = least_form(passed, width=2)
        self.assertEqual(answer, least_form(form, width=2))
        self.assertTrue(only_tuples(answer))
        self.assertEqual(passed, lists_of(form))
        self.assertIs(answer[0][0], False)
        self.assertIs(answer[1][0], True)

    def test_sixty_states(self):
        ring = tuple((state % 20 == 0, ((state + 1) % 60,)) for state in range(60))
        self.assertEqual(len(least_form(ring, width=1)), 20)
        chain = tuple((state == 59, (state + 1 if state < 59 else None, None)) for state in range(60))
        self.assertEqual(least_form(chain, width=2), chain)
