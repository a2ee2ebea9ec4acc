"""Filerights: who can ever do what in a tree of folders and files."""
