"""Where patterns match, and the kinds of trees that follow from it."""
