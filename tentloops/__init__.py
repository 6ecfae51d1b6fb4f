"""Tentloops: threads on a tent sewn of three-cornered cloths."""
