"""Numbers written in digits.

Python refuses to write or read some thousands of digits at once, and numbers
that the program returned may be longer. So both is done in blocks of digits.
"""

BLOCK_DIGITS = 60
BLOCK = 10 ** 60


def format_number(number):
    """Return the digits of an integer from 0 on, without a leading zero."""
    blocks = []
    rest = number
    while rest >= BLOCK:
        rest, low = divmod(rest, BLOCK)
        blocks.append(str(low).zfill(BLOCK_DIGITS))
    blocks.append(str(rest))
    return "".join(reversed(blocks))


def parse_number(text):
    """Return the integer from 0 on whose digits are the text, None if there is none."""
    # Digits of other alphabets are digits for isdigit, too.
    if not text.isascii() or not text.isdigit():
        return None
    if text.startswith("0") and len(text) > 1:
        return None
    first = len(text) % BLOCK_DIGITS
    # The zero in front stands for a first block that is empty.
    number = int("0" + text[:first])
    for at in range(first, len(text), BLOCK_DIGITS):
        number = number * BLOCK + int(text[at:at + BLOCK_DIGITS])
    return number
