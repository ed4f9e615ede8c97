"""A slow reader of texts of expressions, made from the grammar alone, to check the quick one.

It follows Earley: after each character it knows all that the text can still become, so that a
character is wrong exactly if nothing is left.
"""


def _number_rules(name, low, high):
    """Rules for the decimal numbers from low to high, one for each beginning of one."""
    rules = {}
    text = str(high)

    def free(count):
        # Any digits, at most so many.
        key = ("digits", count)
        rules[key] = [()] if count == 0 else [(), *[(d, ("digits", count - 1)) for d in "0123456789"]]
        if count > 0:
            free(count - 1)
        return key

    def exact(at):
        # The digits from a place on, as many as high has, and not above it.
        key = ("below", high, at)
        if at == len(text):
            rules[key] = [()]
            return key
        choices = [(d, exact_free(len(text) - at - 1)) for d in "0123456789" if d < text[at]]
        rules[key] = [*choices, (text[at], exact(at + 1))]
        return key

    def exact_free(count):
        # Just so many digits.
        key = ("exactly", count)
        rules[key] = [()] if count == 0 else [(d, ("exactly", count - 1)) for d in "0123456789"]
        if count > 0:
            exact_free(count - 1)
        return key

    starts = []
    for digit in "123456789":
        if len(text) > 1:
            starts.append((digit, free(len(text) - 2)))
        if digit < text[0]:
            starts.append((digit, exact_free(len(text) - 1)))
        elif digit == text[0]:
            starts.append((digit, exact(1)))
    if low == 0:
        starts.append(("0",))
    rules[name] = starts
    return rules


def _grammar():
    """All rules: each name with the sequences it can be, of names (tuples, words) and signs."""
    rules = {
        "spaces": [(), (" ", "spaces")],
        "text": [("spaces", "pick", "spaces")],
        "pick": [("compare",), ("compare", "spaces", "?", "spaces", "pick", "spaces", ":", "spaces", "pick")],
        "compare": [("or",), *[("or", "spaces", *sign, "spaces", "or") for sign in ("<", "==")]],
        "or": [("xor",), ("or", "spaces", "|", "spaces", "xor")],
        "xor": [("and",), ("xor", "spaces", "^", "spaces", "and")],
        "and": [("shift",), ("and", "spaces", "&", "spaces", "shift")],
        "shift": [("sum",), *[("shift", "spaces", *sign, "spaces", "amount") for sign in ("<<", ">>", ">>>")]],
        "sum": [("product",), *[("sum", "spaces", sign, "spaces", "product") for sign in "+-"]],
        "product": [("prefixed",), ("product", "spaces", "*", "spaces", "prefixed"),
                    *[("product", "spaces", *sign, "spaces", "divisor") for sign in ("/", "mod")]],
        "prefixed": [("single",), ("~", "spaces", "prefixed"), ("-", "spaces", "prefixed")],
        "single": [("number",), *[(letter,) for letter in "abcd"], ("(", "spaces", "pick", "spaces", ")")],
    }
    rules.update(_number_rules("number", 0, 2 ** 64 - 1))
    rules.update(_number_rules("amount", 0, 63))
    rules.update(_number_rules("divisor", 1, 2 ** 64 - 1))
    return rules


RULES = _grammar()
EMPTY = {name for name in RULES if () in RULES[name]}


def _closed(states, column, columns):
    """All states of a column, with those that follow without a further character."""
    found = list(states)
    known = set(found)
    for state in found:
        name, body, dot, origin = state
        following = []
        if dot < len(body) and body[dot] in RULES:
            following = [(body[dot], choice, 0, column) for choice in RULES[body[dot]]]
            if body[dot] in EMPTY:
                following.append((name, body, dot + 1, origin))
        elif dot == len(body):
            source = found if origin == column else columns[origin]
            following = [(n, b, d + 1, o) for n, b, d, o in list(source) if d < len(b) and b[d] == name]
        for new in following:
            if new not in known:
                known.add(new)
                found.append(new)
    return found


def wrong_place(text):
    """None if the grammar has the text, otherwise the place of ParseError."""
    columns = [_closed([("text", body, 0, 0) for body in RULES["text"]], 0, [])]
    for place, character in enumerate(text):
        moved = [(n, b, d + 1, o) for n, b, d, o in columns[-1] if d < len(b) and b[d] == character]
        if not moved:
            return place
        columns.append(_closed(moved, place + 1, columns))
    whole = [s for s in columns[-1] if s[0] == "text" and s[2] == len(s[1]) and s[3] == 0]
    return None if whole else len(text)
