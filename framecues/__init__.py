"""Framecues: animations and transitions by timelines."""
