"""Mergeline: lines of goods that meet at desks, with bounds of waiting told ahead."""
