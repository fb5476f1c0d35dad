"""Solidyard: bodies with flat walls, told exactly."""
