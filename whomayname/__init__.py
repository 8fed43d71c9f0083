"""Whomayname: which later code may name the members of given classes."""
