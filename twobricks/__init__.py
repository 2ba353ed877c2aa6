"""Twobricks: boxes filled by two kinds of bricks."""
