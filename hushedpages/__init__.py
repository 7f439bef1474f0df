"""Set pages with words struck out, and tell exactly what the covered copies tell of these words."""
