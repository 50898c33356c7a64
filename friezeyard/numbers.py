"""The numbers of a cutting: how many triangles meet at each corner [10]."""

from friezeyard.rooms import triangles


def numbers(cut):
    row = [0] * cut[0]
    for corners in triangles(cut):
        for corner in corners:
            row[corner] += 1
    return row
