"""Chains of steps that scale, crop and turn pictures of any size, computed exactly."""
