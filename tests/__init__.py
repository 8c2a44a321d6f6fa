"""The tests of slipstold."""
