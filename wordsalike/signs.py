"""The signs with which texts of expressions are written."""

# The letter of each name.
LETTERS = "abcd"

# The signs in front of one part. They bind more than all others.
PREFIXES = {"~": "not", "-": "neg"}
PREFIX_GROUP = 1

# The signs behind a part, with their operations and groups: a greater group binds less.
SIGNS = {
    "*": ("mul", 2),
    "/": ("quo", 2),
    "mod": ("rem", 2),
    "+": ("add", 3),
    "-": ("sub", 3),
    "<<": ("left", 4),
    ">>": ("right", 4),
    ">>>": ("signed", 4),
    "&": ("and", 5),
    "^": ("xor", 6),
    "|": ("or", 7),
    "<": ("less", 8),
    "==": ("same", 8),
    "?": ("pick", 9),
}
COMPARING_GROUP = 8
PICK_GROUP = 9
