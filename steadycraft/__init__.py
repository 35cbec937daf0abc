"""Steadycraft: code that keeps wishes in every run of a craft, or a spoiler."""
