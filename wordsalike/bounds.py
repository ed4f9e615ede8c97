"""The limits that the other modules keep."""

# The greatest width of a word, in bits.
WIDTH = 64
# An expression has at most so many nodes, nested at most so deep.
NODES = 200
DEPTH = 40
# The signed words in the table of a short mix reach from -SHORT to SHORT.
SHORT = 60
# The factors of a sum of masks have at most this sum of absolute values.
FACTORS = 255
# A program has at most so many rows; within a paper it may have WIDE.
ROWS = 60
WIDE = 200
# A paper has at most so many steps.
STEPS = 1000
# A store holds at most so many programs.
SLOTS = 10
# A batch has at most so many actions.
BATCH = 20
