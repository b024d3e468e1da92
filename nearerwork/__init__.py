"""Nearerwork: plans made nearer to the work, step by step."""
