"""Trials: what is done at a desk for a while and then taken back."""

from lastingshares.deeds import deed_list, do_deed


class Trial:
    """A trial at a desk: behind a `with` block, the desk is as it was when the block began."""

    def __init__(self, desk):
        self.desk = desk
        self.chain = None
        self.notes = None
        self.watched = None
        self.names = None
        self.past = None

    def __enter__(self):
        self.chain = self.desk.chain
        self.notes = self.desk.notes
        self.watched = self.desk.watched
        self.names = self.desk.names
        self.past = self.desk.past
        return self.desk

    def __exit__(self, kind, value, trace):
        desk = self.desk
        desk.chain = self.chain
        desk.notes = self.notes
        desk.watched = self.watched
        desk.names = self.names
        desk.past = self.past


def tried(desk, deeds):
    """Does the deeds, takes them all back, and returns the tuple of the Chains that the desk had after each of them."""
    listed = deed_list(deeds)
    found = []
    with Trial(desk):
        for deed in listed:
            do_deed(desk, deed)
            found.append(desk.chain)
    return tuple(found)
