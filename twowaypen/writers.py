"""What all writers share: outcome and origins, told by the writer's own walk."""


class Writer:
    def __init__(self, letters):
        self.letters = letters

    # Each kind of writer has a walk of its own; one that has none has no rule either.
    def walk(self, text):
        return ("stuck", [])

    def outcome(self, text):
        walked = self.walk(text)
        return (walked[0], "".join([piece for piece, origin in walked[1]]))

    def origins(self, text):
        numbers = []
        for piece, origin in self.walk(text)[1]:
            numbers.extend([origin] * len(piece))
        return numbers
