"""Sealhouse: parts with faces, linked, sealed, exchanged."""
