"""The editor: a part exchanged for another one behind the same face."""

from sealhouse.papers import behind_one_face
from sealhouse.plans import Plan


def exchanged(house, p, q):
    """The house in which q's declaration stands in the place of p's, under the word p."""
    behind_one_face(house, p, q)
    other = Plan(house).declared[q]
    new = (other[0], p) + other[2:]
    return [new if declaration[1] == p else declaration for declaration in house]
