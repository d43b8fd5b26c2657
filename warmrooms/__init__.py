"""Rooms as warm masses: a building, run step by step with exact numbers."""
