"""Wholesay: sets of rows of whole numbers, told by formulas, by bases with periods, by machines over digits."""
