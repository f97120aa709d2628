"""The post: a web with the deeds done at it, step by step, back and again."""

from swapslip.deeds import own_deed, perform
from swapslip.errors import Nothing, SlipError, Stopped
from swapslip.web import Web


class Post:
    def __init__(self, ranges):
        # No web that a post keeps is ever changed, so that steps and twins may share it.
        self.now = Web(ranges)
        # Steps as (deeds, web): the web that was ahead of each, or, of those taken back, behind it.
        self.past = []
        self.again = []

    def __eq__(self, other):
        return isinstance(other, Post) and self.now == other.now

    def __len__(self):
        return len(self.past)

    def twin(self):
        new = Post(self.now.ranges())
        new.now = self.now
        new.past = list(self.past)
        new.again = list(self.again)
        return new

    def stand_step(self, deeds, web):
        """Let deeds stand as a step that led to this web."""
        self.past.append((tuple(deeds), self.now))
        self.now = web
        self.again = []

    def do(self, deed):
        """Do one deed as a step, and tell what it tells."""
        kept = own_deed(deed)
        web = self.now.twin()
        told = perform(web, kept)
        self.stand_step([kept], web)
        return told

    def run(self, deeds):
        """Do all deeds as one step, or none of them; tell what each tells."""
        web = self.now.twin()
        kept = []
        told = []
        for at, deed in enumerate(deeds):
            try:
                kept.append(own_deed(deed))
                told.append(perform(web, kept[-1]))
            except SlipError as refused:
                raise Stopped(at, refused.word) from None
        if kept:
            self.stand_step(kept, web)
        return told

    def undo(self):
        if not self.past:
            raise Nothing()
        deeds, web = self.past.pop()
        self.again.append((deeds, self.now))
        self.now = web

    def redo(self):
        if not self.again:
            raise Nothing()
        deeds, web = self.again.pop()
        self.past.append((deeds, self.now))
        self.now = web

    def depth(self):
        """How many steps can be taken back, and how many done again."""
        return len(self.past), len(self.again)

    def deeds(self):
        return [deed for deeds, web in self.past for deed in deeds]

    def web(self):
        return self.now.twin()
