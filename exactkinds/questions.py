"""The lines of a job that are questions (point 1200)."""


class Question:
    """A question: its word, such as "holds", and what stands behind it, each as far as the word asks for it.

    Trees have a string for each word without parentheses until all lines are read.
    """

    def __init__(self, word):
        self.word = word
        self.name = ""
        self.trees = ()
        self.steps = 0


def take_question(line):
    """Return the question of a line behind its first word."""
    question = Question(line.take_word())
    if question.word in ("right", "never", "holds", "run"):
        question.name = line.take_word()
    if question.word == "index":
        question.trees = (line.take_tree(),)
    elif question.word in ("holds", "run"):
        question.trees = line.take_trees()
    elif question.word not in ("let", "right", "never"):
        line.refuse()
    if question.word == "holds" and len(question.trees) > 1:
        line.refuse()
    if question.word == "run":
        line.skip("steps")
        question.steps = line.take_number()
    return question
