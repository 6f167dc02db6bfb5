"""Heelrow: who is called goes to stand right behind whom they follow."""
