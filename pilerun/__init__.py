"""Pilerun: machines with a pile, and which piles come to a wished spot."""
