"""Goneday: papers that must be kept, and papers that must be gone."""
