"""Midwindow: the so-manieth number of a window that slides over cells."""
