"""Rulerow: rows in which each number comes of those ahead by one rule."""
