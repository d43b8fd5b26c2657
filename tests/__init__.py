"""Tests of warmrooms."""
