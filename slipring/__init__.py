"""Orders on a ring of slips, given and taken by hands that touch one cell at a time."""
