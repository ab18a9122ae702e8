"""Writing a table and a program as a text (point 206)."""


def write(table, program):
    """Return the text of a table and a program."""
    _, makers, families, constructors = table
    rows = [f"maker {word} {parts}" for word, parts in makers]
    rows.extend([f"family {word}" for word in families])
    for word, parts, family, index in constructors:
        rows.append(f"con {word} : {_arrow(parts, family, index)}")
    for function in program[1]:
        rows.extend(_function_rows(function))
    return "".join([f"{row}\n" for row in rows])


def _function_rows(function):
    word, params, family, index, falls, clauses = function
    rows = [f"fun {word} falls {falls} : {_arrow(params, family, index)}"]
    for patterns, body in clauses:
        before = ", ".join([tree_text(pattern) for pattern in patterns])
        rows.append(f"{word}({before}) = {tree_text(body)}")
    return rows


def _arrow(kinds, family, index):
    before = ", ".join([kind_text(each, term) for each, term in kinds])
    made = kind_text(family, index)
    return f"{before} -> {made}" if before else f"-> {made}"


def kind_text(family, term):
    """Return the text of a family at an index."""
    return f"{family}({tree_text(term)})"


def tree_text(tree):
    """Return the text of a term, a pattern or a body."""
    if isinstance(tree, str):
        return tree
    if len(tree) == 1:
        return tree[0]
    # A loop, as a comprehension would make deep trees take twice as many open calls.
    texts = []
    for part in tree[1:]:
        texts.append(tree_text(part))
    inner = ", ".join(texts)
    return f"{tree[0]}({inner})"
