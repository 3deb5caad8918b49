"""Runs examples that are written as the document writes them."""

PROMPT, MORE, RAISES = ">>> ", "... ", "raises "


def steps_of(block):
    """The pairs (CODE, EXPECTED) of a block of examples; EXPECTED is None where nothing is shown."""
    steps = []
    for line in block.strip().splitlines():
        if line.startswith(PROMPT):
            steps.append([line[len(PROMPT):], None])
        elif line.startswith(MORE):
            steps[-1][0] += "\n" + line[len(MORE):]
        else:
            steps[-1][1] = line
    return steps


def is_expression(code):
    try:
        compile(code, "example", "eval")
    except SyntaxError:
        return False
    return True


def shown_error(error):
    told = ", ".join(f"{name}={value!r}" for name, value in vars(error).items())
    return f"{RAISES}{type(error).__name__}({told})"


def outcome_of(code, names):
    """What the document would show below a line of code, None for nothing."""
    try:
        if is_expression(code):
            value = eval(code, names)
            return None if value is None else repr(value)
        exec(code, names)
    except ValueError as error:
        return shown_error(error)
    return None


def run_block(test, block, names):
    for code, expected in steps_of(block):
        with test.subTest(code=code):
            test.assertEqual(outcome_of(code, names), expected)
