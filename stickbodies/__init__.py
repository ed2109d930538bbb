"""Stickbodies: bodies in the plane that are sums of sticks."""
