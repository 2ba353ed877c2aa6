"""The bounds within which the package works."""

# How many axes sides may have.
MAX_DIMS = 4

# The longest side: 10 ** 12.
MAX_SIDE = 1000000000000

# How many kinds of bricks there may be.
MAX_KINDS = 4

# How many cells a box may have whose cells are gone through.
MAX_CELLS = 400

# How many cells a box may have whose fillings are counted.
MAX_FEW = 20

# How many rows a plan may have.
MAX_ROWS = 1000

# How many edits of a yard may be in effect.
HISTORY = 30

# How many edits an attempt may consist of.
BATCH = 20
