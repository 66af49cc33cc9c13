"""The sizes and the one name that all of the program goes by."""

# For so many ticks behind its own a promise still waits for its put.
PATIENCE = 40

# A glance is told of old up to so many ticks ago.
BOUND = 20

# A lease is asked for so many ticks at most.
LONGEST = 30

# So many cells at most are written or promised by one deed.
MOST = 24

# So many piece houses a World has, where nothing else is said.
PIECES = 3

# So many piece houses keep each cell, where nothing else is said.
COPIES = 2

# Who may do all.
ROOT = "root"
