"""Words, and the trees that are written with them."""
