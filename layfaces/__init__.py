"""Layfaces: faces laid down one after another, each on whole sides."""
