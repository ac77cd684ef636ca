"""Rowjudge: books of decision tables judged whole."""
