"""Editionlines: lines, releases, tries and days, decided for all histories."""
