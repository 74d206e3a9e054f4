"""The ends of a stretch, as its low end and as its high end."""


# A base alone: each sort of end tells its own, so that none rests on what stands here.
class End:

    def low(self):
        return None

    def behind(self):
        return None


class Shut(End):

    def __init__(self, place):
        self.place = place

    def low(self):
        return self.place

    def behind(self):
        return self.place + 1


class Open(End):

    def __init__(self, place):
        self.place = place

    def low(self):
        return self.place + 1

    def behind(self):
        return self.place


class Endless(End):

    def low(self):
        return None

    def behind(self):
        return None
