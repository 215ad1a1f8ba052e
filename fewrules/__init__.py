"""Fewrules: rules of few names from examples."""
