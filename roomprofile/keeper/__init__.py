"""A keeper: it grants steps of jobs while all that is left can still be finished."""
