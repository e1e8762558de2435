"""The printable signs by their ordinals."""

SIGNS = " !\"#$%&'()*+,-./0123456789:;<=>?@ABCDEFGHIJKLMNOPQRSTUVWXYZ[\\]^_`abcdefghijklmnopqrstuvwxyz{|}~"


def sign_of(number):
    """The sign with this ordinal, from 32 to 126."""
    return SIGNS[number - 32]
