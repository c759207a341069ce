"""Permutations of 1 to 12 points (point 2.1)."""

from classtable.errors import Malformed, NoText, Refused
from classtable.texts import number_of
from classtable.whole import is_integer, multiple

MOST_POINTS = 12


def is_arrangement(values):
    """True if a list or tuple consists of the numbers from 0 to len(values) - 1, each once."""
    if not all([is_integer(value) for value in values]):
        return False
    return sorted(values) == list(range(len(values)))


class Permutation:
    """A permutation: the image of the point k is the item at the index k of `images`."""

    def __init__(self, images):
        if not isinstance(images, (list, tuple)) or len(images) == 0 or not is_arrangement(images):
            raise Malformed("the images are not the numbers from 0 on, each once")
        if len(images) > MOST_POINTS:
            raise Refused("points")
        self.images = tuple(images)

    def __mul__(self, other):
        if not isinstance(other, Permutation):
            return NotImplemented
        if len(self.images) != len(other.images):
            raise Malformed("the numbers of points differ")
        return Permutation([self.images[k] for k in other.images])

    def __eq__(self, other):
        return isinstance(other, Permutation) and self.images == other.images

    def __call__(self, k):
        return self.images[k]

    def __str__(self):
        return str(_text_of(self.cycles()))

    def inverse(self):
        """The permutation that takes each image back to its point."""
        back = [0] * len(self.images)
        for k, image in enumerate(self.images):
            back[image] = k
        return Permutation(back)

    def order(self):
        """The least k from 1 on for which the k-th power is the identity."""
        return multiple([len(cycle) for cycle in self.cycles()])

    def cycles(self):
        """The tuple of the cycles of at least two points, as tuples."""
        found = []
        seen = set()
        for start in range(len(self.images)):
            cycle = []
            k = start
            while k not in seen:
                seen.add(k)
                cycle.append(k)
                k = self.images[k]
            if len(cycle) > 1:
                found.append(tuple(cycle))
        return tuple(found)

    def fixed(self):
        """The number of points that are their own images."""
        return len([k for k, image in enumerate(self.images) if k == image])


def _text_of(cycles):
    """The text of the permutation with these cycles."""
    if len(cycles) == 0:
        return "()"
    words = [" ".join([str(k) for k in cycle]) for cycle in cycles]
    return "".join([f"({word})" for word in words])


def identity(m):
    """The identity of m points."""
    return Permutation(list(range(m)))


def _told(text, m):
    """The images that a text of cycles tells, whatever it has for its first and last character, or None."""
    images = list(range(m))
    if text == "()":
        return images
    cycles = [[number_of(word) for word in part.split(" ")] for part in text[1:-1].split(")(")]
    points = [k for cycle in cycles for k in cycle]
    # If no point stands twice, the images are those of a permutation.
    if None in points or len(set(points)) != len(points):
        return None
    if min(points) < 0 or max(points) >= m:
        return None
    for cycle in cycles:
        for k, image in zip(cycle, cycle[1:] + cycle[:1]):
            images[k] = image
    return images


def read_permutation(text, m):
    """The permutation of m points with this text; raises NoText(0) if there is none, for every value."""
    if not isinstance(text, str) or not 1 <= m <= MOST_POINTS:
        raise NoText(0)
    images = _told(text, m)
    if images is None:
        raise NoText(0)
    found = Permutation(images)
    # Other spellings tell this permutation, too.
    if str(found) != text:
        raise NoText(0)
    return found
