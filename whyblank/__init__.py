"""Whyblank: answers left blank for reasons, and the whole book out of the sheets that came back."""
