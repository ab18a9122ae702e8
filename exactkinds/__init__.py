"""Exactkinds: types that are exact about runs."""
