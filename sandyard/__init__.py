"""Sandyard: grains that tumble, and heaps that come back."""
