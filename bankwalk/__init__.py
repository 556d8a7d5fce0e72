"""Bankwalk: words dealt to banks so that walks never clash."""
