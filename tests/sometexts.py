"""Values with the texts that tell them, for the tests of texts, readers and the desk."""

MOST = (10 ** 50) ** 8 - 1
GOLDEN = ("machine", 1, ((0, 0, 1, 1), (0, 0, 2, 1)))
WIDE = ("machine", 12, ((0, 11, 400, 1), (3, 0, 1, MOST), (3, 0, 2, 7), (3, 4, 1, 1), (11, 0, 5, 2)))
SIXTY = tuple([(length, length) for length in range(1, 61)])
ROADS = ("machine", 2, tuple([(0, 1, length, 1) for length in range(1, 61)]))

# By kind: a value, and what is written.
TOLD = {
    "number": [
        (("number", (-1, -1, 1), 0), "number -1 -1 1 at 0\n"),
        (("number", (-9999, 1), 0), "number -9999 1 at 0\n"),
        (("number", (1, 0, -10, 0, 1), 1), "number 1 0 -10 0 1 at 1\n"),
        (("number", (-2, 0, 0, 0, 0, 9999, 1), 0), "number -2 0 0 0 0 9999 1 at 0\n"),
    ],
    "machine": [
        (GOLDEN, "machine 1\nroad 0 0 1 1\nroad 0 0 2 1\n"),
        (("machine", 12, ()), "machine 12\n"),
        (("machine", 2, ((0, 1, 3, 5), (1, 0, 400, 1))), "machine 2\nroad 0 1 3 5\nroad 1 0 400 1\n"),
        (WIDE, "machine 12\nroad 0 11 400 1\nroad 3 0 1 " + "9" * 400 + "\nroad 3 0 2 7\nroad 3 4 1 1\nroad 11 0 5 2\n"),
        (ROADS, "machine 2\n" + "".join(["road 0 1 " + str(length) + " 1\n" for length in range(1, 61)])),
    ],
    "table": [
        (((2,),), "table 1\nrow 2\n"),
        (((0,),), "table 1\nrow 0\n"),
        (((1, 10 ** 6), (0, 0)), "table 2\nrow 1 1000000\nrow 0 0\n"),
        (((1, 1, 1), (0, 2, 0), (3, 0, 0)), "table 3\nrow 1 1 1\nrow 0 2 0\nrow 3 0 0\n"),
        (((0,) * 12,) * 12, "table 12\n" + ("row" + " 0" * 12 + "\n") * 12),
    ],
    "rounds": [
        (((2, 1),), "rounds\nround 2 1\n"),
        (((1, 1), (2, 30), (400, MOST)), "rounds\nround 1 1\nround 2 30\nround 400 " + "9" * 400 + "\n"),
        (SIXTY, "rounds\n" + "".join(["round " + str(length) + " " + str(length) + "\n" for length in range(1, 61)])),
    ],
    "paper": [
        (("ring", (5, 2)), "paper ring 5/2\n"),
        (("ring", (3, 1)), "paper ring 3\n"),
        (("ring", (1, MOST)), "paper ring 1/" + "9" * 400 + "\n"),
        (("beats", 2), "paper beats 2\n"),
        (("beats", 6), "paper beats 6\n"),
        (("second", (0, 1), (1, 2)), "paper second 0 1/2\n"),
        (("second", (3, 7), (4, 1)), "paper second 3/7 4\n"),
        (("hub", ((2, 1), (3, 4))), "paper hub\nrounds\nround 2 1\nround 3 4\n"),
        (("hub", SIXTY), "paper hub\nrounds\n" + "".join(["round " + str(at) + " " + str(at) + "\n" for at in range(1, 61)])),
        (("machine", GOLDEN, (((0, 1), 3),)), "paper machine\nmachine 1\nroad 0 0 1 1\nroad 0 0 2 1\nweight 3 0 1\n"),
        (("machine", ("machine", 2, ()), (((5,), 1), ((-7,), 2))), "paper machine\nmachine 2\nweight 1 5\nweight 2 -7\n"),
        (("machine", ("machine", 1, ((0, 0, 1, 1),)), (((0, 0, 0, 0, 0, 0), 1),)),
         "paper machine\nmachine 1\nroad 0 0 1 1\nweight 1 0 0 0 0 0 0\n"),
        (("machine", ("machine", 2, ((0, 1, 1, 1),)), (((-MOST, 2, 0), MOST - 1), ((1, 0, 0), 1))),
         "paper machine\nmachine 2\nroad 0 1 1 1\nweight " + "9" * 399 + "8 -" + "9" * 400 + " 2 0\nweight 1 1 0 0\n"),
    ],
}
