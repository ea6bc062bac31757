"""Leakyqueue: sequences of puts and takes on a queue that loses items."""
