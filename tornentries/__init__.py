"""Tornentries: files of tagged entries, grown in place, torn."""
