"""Stillpanes: a window that is resized, and its panes, drawn so that none of them trembles."""
