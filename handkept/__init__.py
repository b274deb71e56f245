"""Judges programs that write texts which hands edit, and keeps the edits of such texts."""
