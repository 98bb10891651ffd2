"""The facts that tell of a row what an expression says of it."""


def facts_for(expression):
    """The facts of a question, the last of which is so of a row just if the expression is."""
    facts, asked = facts_for_all([expression])
    return facts[:asked[0] + 1]


def facts_for_all(expressions):
    """(the facts of a question, by expression the number of that which is so of a row just if the expression is)."""
    facts = {}
    found = [one for expression in expressions for one in bases(expression)]
    base = found[0] if len(found) > 0 else ("label", "a")
    asked = [_fact_of(expression, facts, base) for expression in expressions]
    return tuple(list(facts)), tuple(asked)


def bases(expression):
    """The facts of labels and texts that an expression asks for."""
    if expression[0] != "path":
        return [base for part in expression[1:] for base in bases(part)]
    found = []
    for step in expression[1]:
        if len(step) == 3:
            found.append(("text", step[2], 1))
            continue
        for test in step[2:]:
            if test is not None:
                found.extend(_bases_of_test(test))
    return found


def _bases_of_test(test):
    """The facts of labels and texts that a test asks for."""
    label, filters = test
    found = [] if label is None else [("label", label)]
    return found + [base for part in filters for base in bases(part)]


def _put(facts, fact):
    """The number of a fact, which is put behind the others if it is not among them."""
    return facts.setdefault(fact, len(facts))


def _fact_of(expression, facts, base):
    """The number of the fact of an expression; what is missing is put among the facts."""
    if expression[0] == "path":
        rest = None
        for step in reversed(expression[1]):
            rest = _fact_of_step(step, rest, facts, base)
        return rest
    parts = [_fact_of(part, facts, base) for part in expression[1:]]
    return _put(facts, (expression[0],) + tuple(parts))


def _fact_of_step(step, rest, facts, base):
    """The number of the fact that a step leads on, rest being that of the steps behind, None if there are none."""
    if len(step) == 3:
        return _here_or_inside(step[0], _put(facts, ("text", step[2], 1)), facts)
    axis, form, test, other = step
    if other is not None:
        passed = _fact_of_test(test, None, facts, base)
        goal = _fact_of_test(other, rest, facts, base)
        return _here_or_inside(axis, _put(facts, (form, passed, goal)), facts)
    goal = _fact_of_test(test, rest, facts, base)
    if axis == "//" and form == 1:
        return _put(facts, ("inside", goal))
    fact = (form, goal) if isinstance(form, str) else ("child", goal, form)
    return _here_or_inside(axis, _put(facts, fact), facts)


def _here_or_inside(axis, number, facts):
    """The number of the fact that another one is so of the row, or, by the axis, of one inside an element within."""
    if axis == "/":
        return number
    return _put(facts, ("or", number, _put(facts, ("inside", number))))


def _fact_of_test(test, rest, facts, base):
    """The number of the fact that an element passes a test, and rest, if any, is so of the row inside it."""
    label, filters = test
    parts = [] if label is None else [_put(facts, ("label", label))]
    for part in filters:
        parts.append(_fact_of(part, facts, base))
    if rest is not None:
        parts.append(rest)
    if len(parts) == 0:
        # No fact is so of every row by itself; one of what is asked for anyway makes no row remember more.
        number = _put(facts, base)
        return _put(facts, ("or", number, _put(facts, ("not", number))))
    number = parts[0]
    for part in parts[1:]:
        number = _put(facts, ("and", number, part))
    return number
