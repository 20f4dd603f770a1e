"""Grope: a hand that does errands without seeing."""
