"""Fields of cells: how they are written, and what a window over them holds."""
