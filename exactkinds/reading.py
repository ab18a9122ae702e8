"""Reading a table and a program from a text (points 202 to 205)."""

from exactkinds.errors import BadText
from exactkinds.lines import Line, rows_of
from exactkinds.questions import take_question


class Draft:
    """What the lines of a text tell so far; asks tells whether lines may be questions.

    Each word without parentheses is a string here, as a line further down may still declare it.
    """

    def __init__(self, asks):
        self.asks = asks
        self.makers = []
        self.families = []
        self.constructors = []
        self.functions = []
        self.questions = []


def read(text):
    """Return the pair of the table and the program that a text tells, or raise BadText."""
    draft = _drafted(text, False)
    return _table(draft), _program(draft)


def read_job(text):
    """Return the table, the program and the list of the questions that a job tells, or raise BadText."""
    draft = _drafted(text, True)
    makers = dict(draft.makers)
    constructors = _constructor_words(draft)
    for question in draft.questions:
        words = makers if question.word == "holds" else constructors
        question.trees = tuple([_declared(tree, words) for tree in question.trees])
    return _table(draft), _program(draft), draft.questions


def _drafted(text, asks):
    rows = rows_of(text)
    draft = Draft(asks)
    for number, row in enumerate(rows, start=1):
        line = Line(row, number)
        if line.tokens:
            _take_line(draft, line)
            line.finish()
    # Only now, as a bad line ahead of the one without a newline is told first.
    if text and not text.endswith("\n"):
        raise BadText(len(rows) + 1)
    return draft


def _take_line(draft, line):
    if line.tokens[1:2] == ["("]:
        _take_clause(draft, line)
        return
    first = line.take()
    if first == "maker":
        _take_maker(draft, line)
    elif first == "family":
        draft.families.append(line.take_word())
    elif first == "con":
        _take_constructor(draft, line)
    elif first == "fun":
        _take_function(draft, line)
    elif first == "ask" and draft.asks:
        draft.questions.append(take_question(line))
    else:
        line.refuse()


def _take_maker(draft, line):
    word = line.take_word()
    draft.makers.append((word, line.take_number()))


def _take_constructor(draft, line):
    word = line.take_word()
    line.skip(":")
    parts = () if line.comes("->") else _take_kinds(line)
    line.skip("->")
    family, index = _take_kind(line)
    draft.constructors.append((word, parts, family, index))


def _take_function(draft, line):
    word = line.take_word()
    line.skip("falls")
    falls = line.take_number()
    line.skip(":")
    params = _take_kinds(line)
    line.skip("->")
    family, index = _take_kind(line)
    draft.functions.append((word, params, family, index, falls, []))


def _take_kinds(line):
    found = [_take_kind(line)]
    while line.comes(","):
        line.skip(",")
        found.append(_take_kind(line))
    return tuple(found)


def _take_kind(line):
    family = line.take_word()
    line.skip("(")
    term = line.take_tree()
    line.skip(")")
    return family, term


def _take_clause(draft, line):
    word = line.take_word()
    if not draft.functions or draft.functions[-1][0] != word:
        line.refuse()
    patterns = line.take_trees()
    line.skip("=")
    clauses = draft.functions[-1][5]
    clauses.append((patterns, line.take_tree()))


def _table(draft):
    makers = dict(draft.makers)
    constructors = []
    for word, parts, family, index in draft.constructors:
        constructors.append((word, _kinds(parts, makers), family, _declared(index, makers)))
    return ("table", tuple(draft.makers), tuple(draft.families), tuple(constructors))


def _program(draft):
    makers = dict(draft.makers)
    constructors = _constructor_words(draft)
    functions = []
    for word, params, family, index, falls, clauses in draft.functions:
        head = (word, _kinds(params, makers), family, _declared(index, makers), falls)
        functions.append(head + (_clauses(clauses, constructors),))
    return ("program", tuple(functions))


def _constructor_words(draft):
    return {row[0]: True for row in draft.constructors}


def _kinds(kinds, makers):
    return tuple([(family, _declared(term, makers)) for family, term in kinds])


def _clauses(clauses, constructors):
    found = []
    for patterns, body in clauses:
        told = [_declared(pattern, constructors) for pattern in patterns]
        found.append((tuple(told), _declared(body, constructors)))
    return tuple(found)


def _declared(tree, words):
    """Return the tree with a tuple for each word without parentheses that is one of these words."""
    if isinstance(tree, str):
        return (tree,) if tree in words else tree
    items = [tree[0]]
    for part in tree[1:]:
        items.append(_declared(part, words))
    return tuple(items)
