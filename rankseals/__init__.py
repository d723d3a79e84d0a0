"""Rankseals: papers that need hands, by rank and sum."""
