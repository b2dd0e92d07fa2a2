"""Numbers that are written plainly."""

FIGURES = "0123456789"
MOST_FIGURES = 6


def plain_number(text):
    """The number from 0 to 999999 that a text writes plainly, or None."""
    if not 1 <= len(text) <= MOST_FIGURES or not all([sign in FIGURES for sign in text]):
        return None
    if len(text) > 1 and text[0] == "0":
        return None
    return int(text)
