"""Which numbers are the paces of machines, each answer with a paper."""
