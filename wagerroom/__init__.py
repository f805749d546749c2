"""Wagerroom: observers with partial views, the sources of their odds, and their wagers."""
