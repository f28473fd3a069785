"""Short rows with the same sums of multiples: reducing a basis of a lattice in whole numbers.

Each vector is told by its image, by which its length goes, and by its coordinates, which go along.
"""


class Basis:
    """Vectors that are being reduced, with the numbers that their steps hang on.

    Sizes[k + 1] is the product of the squares of the lengths of the first k + 1 vectors, each taken across the ones
    ahead; shares[k][j] is sizes[j + 1] times what the vector k has of the vector j.
    """

    def __init__(self, images, coordinates):
        self.images = images
        self.coordinates = coordinates
        self.sizes = [1] + [0] * len(images)
        self.shares = [[0] * len(images) for _ in images]


def product_of(one, two):
    """The sum of the products of two vectors."""
    return sum([p * q for p, q in zip(one, two)])


def less_times(one, two, times):
    """A vector less so many times another one."""
    return [p - times * q for p, q in zip(one, two)]


def nearest(number, divisor):
    """A whole number that is nearest to a quotient."""
    return (2 * number + divisor) // (2 * divisor)


def note_vector(basis, k):
    """Works out the numbers of a vector that is looked at for the first time. False if it hangs on those ahead."""
    for j in range(k + 1):
        share = product_of(basis.images[k], basis.images[j])
        for i in range(j):
            share = (basis.sizes[i + 1] * share - basis.shares[k][i] * basis.shares[j][i]) // basis.sizes[i]
        if j < k:
            basis.shares[k][j] = share
        else:
            basis.sizes[k + 1] = share
    return basis.sizes[k + 1] != 0


def shorten(basis, k, j):
    """Takes from a vector what it has of one ahead, as far as whole numbers let."""
    size = basis.sizes[j + 1]
    if 2 * abs(basis.shares[k][j]) <= size:
        return
    times = nearest(basis.shares[k][j], size)
    basis.images[k] = less_times(basis.images[k], basis.images[j], times)
    basis.coordinates[k] = less_times(basis.coordinates[k], basis.coordinates[j], times)
    basis.shares[k][j] = basis.shares[k][j] - times * size
    for i in range(j):
        basis.shares[k][i] = basis.shares[k][i] - times * basis.shares[j][i]


def exchange(basis, k, last):
    """Exchanges a vector with the one ahead; last is the greatest vector that was looked at."""
    images, coordinates, shares, sizes = basis.images, basis.coordinates, basis.shares, basis.sizes
    images[k], images[k - 1] = images[k - 1], images[k]
    coordinates[k], coordinates[k - 1] = coordinates[k - 1], coordinates[k]
    for j in range(k - 1):
        shares[k][j], shares[k - 1][j] = shares[k - 1][j], shares[k][j]
    share = shares[k][k - 1]
    size = (sizes[k - 1] * sizes[k + 1] + share * share) // sizes[k]
    for i in range(k + 1, last + 1):
        ahead = shares[i][k]
        shares[i][k] = (sizes[k + 1] * shares[i][k - 1] - share * ahead) // sizes[k]
        shares[i][k - 1] = (size * ahead + share * shares[i][k]) // sizes[k + 1]
    sizes[k] = size


def is_short(basis, k):
    """Whether a vector, across those ahead, is not much shorter than the one ahead."""
    sizes, share = basis.sizes, basis.shares[k][k - 1]
    return 4 * sizes[k + 1] * sizes[k - 1] >= 3 * sizes[k] * sizes[k] - 4 * share * share


def reduced(images):
    """The coordinates of a reduced basis of the vectors, in these vectors. None if they hang on one another."""
    many = len(images)
    units = [[1 if at == k else 0 for at in range(many)] for k in range(many)]
    basis = Basis([list(image) for image in images], units)
    k, last = 0, -1
    while k < many:
        if k > last:
            last = k
            if not note_vector(basis, k):
                return None
        if k == 0:
            k = 1
            continue
        shorten(basis, k, k - 1)
        if is_short(basis, k):
            for j in range(k - 2, -1, -1):
                shorten(basis, k, j)
            k = k + 1
        else:
            exchange(basis, k, last)
            k = max(k - 1, 1)
    return basis.coordinates
