"""Leanround: papers that lean back on themselves, and what they are worth for any things."""
