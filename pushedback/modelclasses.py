"""Models with what stands ahead of their texts, as objects that never change."""

from pushedback.besttrees import best_tree, tree_shares
from pushedback.contexts import trees_up_to
from pushedback.guards import need
from pushedback.learning import chance_of_counts
from pushedback.learnkinds import is_learner, is_tree_of, tree_depth
from pushedback.mixcoder import pop_mixed, push_mixed
from pushedback.mixing import chance_mixed, need_model, table_mixed
from pushedback.modelreadings import read_model
from pushedback.modeltexts import model_line
from pushedback.ratios import WHOLE


class Mixed:
    """A model and the text ahead, to push and to pop texts by."""

    def __init__(self, model, ahead):
        need_model(model, ahead)
        self._model = model
        self._ahead = ahead
        self._trees = trees_up_to(len(model[0][1]), model[1])

    @property
    def model_now(self):
        """The model."""
        return self._model

    @property
    def ahead_now(self):
        """The text ahead."""
        return self._ahead

    @property
    def learner_now(self):
        """The model's learner."""
        return self._model[0]

    @property
    def depth_now(self):
        """The model's depth."""
        return self._model[1]

    @property
    def share_now(self):
        """The model's share."""
        return self._model[2]

    def __call__(self, text):
        """The chance of the text."""
        return chance_mixed(self._model, self._ahead, text)

    def __getitem__(self, at):
        """The table for a letter behind the text at."""
        return table_mixed(self._model, self._ahead, at)

    def push_on(self, stack, text):
        """The stack with the text pushed."""
        return push_mixed(stack, self._model, self._ahead, text)

    def pop_off(self, stack, many):
        """A text of many letters, and the stack that is left."""
        return pop_mixed(stack, self._model, self._ahead, many)

    def best(self, text):
        """A tree of the greatest worth for the text."""
        return best_tree(self._model, self._ahead, text)

    def shares(self, text):
        """The pairs of a tree and its share of the text's chance."""
        return tree_shares(self._model, self._ahead, text)

    def __iter__(self):
        return iter(self._trees)

    def __len__(self):
        return len(self._trees)

    def __contains__(self, thing):
        """Whether any value is a tree of the model's letters and at most its depth."""
        learner, depth, _ = self._model
        return is_tree_of(len(learner[1]), thing) and tree_depth(thing) <= depth

    def __str__(self):
        return str(model_line(self._model))

    def __eq__(self, other):
        return isinstance(other, Mixed) and self._model == other._model and self._ahead == other._ahead

    @staticmethod
    def read(text, *ahead):
        """The Mixed of the model that the line writes, and of the letters ahead."""
        return Mixed(read_model(text), ahead)


class Single(Mixed):
    """A learner as a model without contexts."""

    def __init__(self, learner):
        need(is_learner(learner), "learner")
        Mixed.__init__(self, (learner, 0, WHOLE), ())

    def by_counts(self, counts):
        """The chance of each text in which the letters stand so often."""
        return chance_of_counts(self.learner_now, counts)
