"""The so-manieth number of a window: by plain sorting, and by counts that are kept while it slides."""
