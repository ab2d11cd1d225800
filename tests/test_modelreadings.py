import unittest

from pushedback.errors import InvalidText
from pushedback.modelreadings import read_model, read_tree
from pushedback.modeltexts import model_line, tree_line
from tests import trees
from tests.refusals import NO_POSITIVE, NO_STRING, NO_TUPLE, check_refusals
from tests.test_mixcoder import MODELS, NO_MODEL

BIG = 10 ** 59 + 7
SIXTY, LONGER = "9" * 60, "1" + "0" * 60
TALL = ((), ((), ()))
# words that cannot stand anywhere in a line of a tree, or of a model
ODD = (
    "", "x", "-1", "+1", "00", "01", "1_0", "1.0", "3\n", "\n", ".\n", "..", "++", "+.", "Tree", LONGER, "1e3", "None",
)
MODEL_WORDS = ["model", "2", "1", "0", "depth", "1", "share", "1", "2"]


def tree_end(letters, words, at):
    """The index behind the tree that begins there, or the negative of the field at which reading ends, less 1."""
    if at == len(words) or words[at] not in (".", "+"):
        return -1 - at
    end = at + 1
    for _ in range(letters if words[at] == "+" else 0):
        if end >= 0:
            end = tree_end(letters, words, end)
    return end


class Reading(unittest.TestCase):
    reader = None

    def field(self, text):
        with self.assertRaises(InvalidText) as caught:
            self.reader(text)
        self.assertEqual(caught.exception.line, 0)
        return caught.exception.field


class TreeLineTest(Reading):
    def setUp(self):
        self.reader = read_tree

    def test_lines(self):
        self.assertEqual(tree_line(2, ()), "tree 2 .")
        self.assertEqual(tree_line(1, ((((),),),)), "tree 1 + + + .")
        self.assertEqual(tree_line(3, ((), ((), (), ()), ())), "tree 3 + . + . . . .")
        self.assertEqual(tree_line(BIG, ()), f"tree {BIG} .")

    def test_there_and_back(self):
        for letters, depth in ((1, 3), (2, 3), (3, 2), (4, 1), (5, 1)):
            for tree in trees.all_trees(letters, depth):
                self.assertEqual(read_tree(tree_line(letters, tree)), (letters, tree))
        self.assertEqual(read_tree(f"tree {SIXTY} ."), (10 ** 60 - 1, ()))
        self.assertEqual(read_tree("tree 1 " + "+ " * 25 + ".")[1], tall(25))

    def test_each_word(self):
        words = tree_line(2, TALL).split(" ")
        for at in range(len(words)):
            for odd in ODD + ("tree", "2", "0"):
                if words[at] != odd:
                    self.assertEqual(self.field(" ".join(words[:at] + [odd] + words[at + 1:])), at, (at, odd))
                    self.assertEqual(self.field(" ".join(words[:at] + [odd] + words[at:])), at, (at, odd))
            self.assertEqual(self.field(" ".join(words + [words[at]])), len(words))
            if at:
                self.assertEqual(self.field(" ".join(words[:at])), at)
        for odd in ODD + (".", "+", "tree", "2"):
            self.assertEqual(self.field(" ".join(words + [odd])), len(words))

    def test_changed_lines(self):
        for letters, depth in ((1, 3), (2, 2), (3, 1)):
            for tree in trees.all_trees(letters, depth):
                words = tree_line(letters, tree).split(" ")
                for at in range(2, len(words)):
                    for put_in in ([], [".", "."], ["+", words[at]], ["+"], ["."]):
                        changed = words[:at] + put_in + words[at + 1:]
                        text = " ".join(changed)
                        end = tree_end(letters, changed, 2)
                        if end == len(changed):
                            self.assertEqual(tree_line(*read_tree(text)), text)
                        else:
                            self.assertEqual(self.field(text), end if end >= 0 else -1 - end, text)

    def test_single_lines(self):
        for text, field in (
            ("", 0), (" ", 0), ("tree", 1), ("tree ", 1), ("tree 2", 2), ("tree 2 ", 2), ("tree  2 .", 1), ("2 .", 0),
            ("tree 0 .", 1), ("tree 0", 1), ("tree 2 + .", 4), ("tree 2 +", 3), ("tree 2 . .", 3), ("tree 2 . +", 3),
            ("tree 2 .\n", 2), ("tree\n2 .", 0), ("tree 2 + . .\n", 4), (f"tree {LONGER} .", 1), ("tree 02 .", 1),
            (f"tree {SIXTY} + .", 4), ("tree 1 + + .  ", 5), ("tree 1 + 0", 3), (" tree 2 .", 0), ("tree 2 . ", 3),
            ("tree . 2", 1), ("tree 3 + . .", 5),
        ):
            self.assertEqual(self.field(text), field, text)

    def test_refusals(self):
        check_refusals(self, read_tree, {"text": "tree 2 ."}, {"text": NO_STRING})
        # the tree of two letters alone
        no_tree = NO_TUPLE + ((None,), ((),), ((), (), ()), ((), ((), (), ())), ((), []), ((), 0))
        check_refusals(self, tree_line, {"letters": 2, "tree": TALL}, {"letters": NO_POSITIVE, "tree": no_tree})


class ModelLineTest(Reading):
    def setUp(self):
        self.reader = read_model

    def test_there_and_back(self):
        for model in MODELS + (((BIG, (0, BIG)), BIG, (10 ** 59, BIG)), ((0, (1,)), 0, (0, 1))):
            self.assertEqual(read_model(model_line(model)), model)
        self.assertEqual(model_line(((3, (0, 9, 2)), 2, (2, 7))), "model 3 0 9 2 depth 2 share 2 7")
        self.assertEqual(read_model(f"model {SIXTY} {SIXTY} depth {SIXTY} share 0 1"), (
            (10 ** 60 - 1, (10 ** 60 - 1,)), 10 ** 60 - 1, (0, 1)))

    def test_each_word(self):
        for at in range(len(MODEL_WORDS)):
            for odd in ODD + ("Model", ".", "+"):
                for behind in (at, at + 1):
                    words = MODEL_WORDS[:at] + [odd] + MODEL_WORDS[behind:]
                    self.assertEqual(self.field(" ".join(words)), at, words)
        for odd in ODD + ("0", "2", "depth", "share", "model"):
            self.assertEqual(self.field(" ".join(MODEL_WORDS + [odd])), len(MODEL_WORDS))

    def test_one_left_out(self):
        for many in range(1, len(MODEL_WORDS)):
            self.assertEqual(self.field(" ".join(MODEL_WORDS[:many])), many)
        for left_out, field in ((0, 0), (1, 3), (4, 5), (5, 5), (6, 6), (7, 8), (8, 8)):
            words = MODEL_WORDS[:left_out] + MODEL_WORDS[left_out + 1:]
            self.assertEqual(self.field(" ".join(words)), field, words)

    def test_known_words_elsewhere(self):
        for text, field in (
            ("", 0), ("model", 1), ("model ", 1), ("depth", 0), ("model depth", 1), ("model 2 depth", 2),
            ("model 2 0 depth", 3), ("model 2 0 0 depth 1 share 1 2", 4), ("model 2 0 0", 4), ("model 2 1", 3),
            ("model 2 1 share", 3), ("model 2 1 depth", 4), ("model 2 1 depth depth", 4), ("model 2 1 depth share", 4),
            ("model 2 1 depth 1 1", 5), ("model 2 1 depth 1 depth", 5), ("model 2 1 depth 1 share share", 6),
            ("model 2 1 depth 1 share", 6), ("model 2 1 depth 1 share 1", 7), ("model 2 1 depth 1 share 1 depth", 7),
            ("model 2 1 depth 1 share 2 1", 7), ("model 2 1 depth 1 share 2 4", 7), ("model 2 1 depth 1 share 0 2", 7),
            ("model 2 1 depth 1 share 0 0", 7), ("model 2 1 depth 1 share 1 0", 7), ("model 2 1 depth 1 share 5 x", 7),
            ("model 2 1 depth 1 share 1 1 1", 8), ("model 2 1 depth 1 share 1 2\n", 7), ("model 2 1 depth\n1", 3),
            ("model 2 1 depth 01", 4), (f"model {LONGER}", 1), (f"model 2 {LONGER}", 2), (f"model 2 1 depth {LONGER}", 4),
            (f"model 2 1 depth 1 share {LONGER}", 6), (f"model 2 1 depth 1 share 1 {LONGER}", 7), ("model 2  1", 2),
            ("model 2 1 depth 1 share 1 2 ", 8), (" model 2 1", 0), ("model 2 1 depth 1 share 10 7", 7),
        ):
            self.assertEqual(self.field(text), field, text)
        self.assertEqual(read_model("model 0 0 0 1 depth 0 share 1 1"), ((0, (0, 0, 1)), 0, (1, 1)))

    def test_refusals(self):
        check_refusals(self, read_model, {"text": "model 2 1 depth 1 share 1 2"}, {"text": NO_STRING})
        check_refusals(self, model_line, {"model": MODELS[0]}, {"model": NO_MODEL})


def tall(depth):
    return (tall(depth - 1),) if depth else ()


if __name__ == "__main__":
    unittest.main()
