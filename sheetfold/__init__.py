"""Sheetfold: sheets of squares folded in space, and skins laid flat."""
