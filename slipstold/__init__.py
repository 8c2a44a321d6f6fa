"""Slipstold: readers that go on behind an error, and how much more they tell than there is to mend."""
