"""Tellroads: tellings that are gone on with after a cut."""
