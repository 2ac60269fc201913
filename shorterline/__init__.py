"""Askers sent to one of several lines, and what each rule leaves of them."""
