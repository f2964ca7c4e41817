"""The tests of stillpanes; README.md says how to run them."""
