"""Landsentered: comings and goings, told late and out of order."""
