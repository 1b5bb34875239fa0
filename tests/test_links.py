"""Which places lead to which: what machines and tables look at."""

import random
import unittest

from whichpaces.links import has_rounds, is_one_lot, lots_of, reached


def some_links(seed, many):
    """Places and what they lead to, in many ways."""
    chance = random.Random(seed)
    found = [[[]], [[0]], [[], []], [[1], [0]], [[1], []]]
    for _ in range(many):
        places = chance.randint(1, 7)
        found.append([[chance.randrange(places) for _ in range(chance.randint(0, 2))] for _ in range(places)])
    return found


def plain_pairs(links):
    """The pairs of places of which the first one leads to the other one."""
    pairs = set([(one, other) for one, following in enumerate(links) for other in following])
    for middle in range(len(links)):
        for one in range(len(links)):
            for other in range(len(links)):
                if (one, middle) in pairs and (middle, other) in pairs:
                    pairs.add((one, other))
    return pairs


class Links(unittest.TestCase):
    def test_reached(self):
        for links in some_links(1, 60):
            pairs = plain_pairs(links)
            for one in range(len(links)):
                self.assertEqual(reached(links, one), [(one, other) in pairs for other in range(len(links))])

    def test_lots(self):
        for links in some_links(2, 120):
            pairs = plain_pairs(links)
            lots = lots_of(links)
            self.assertEqual(lots, sorted(lots))
            self.assertEqual(sorted(sum(lots, [])), list(range(len(links))))
            for lot in lots:
                self.assertEqual(lot, sorted(lot))
            for one in range(len(links)):
                for other in range(len(links)):
                    told = one == other or ((one, other) in pairs and (other, one) in pairs)
                    self.assertEqual(bool([lot for lot in lots if one in lot and other in lot]), told)

    def test_one_lot_and_rounds(self):
        for links in some_links(3, 120):
            pairs = plain_pairs(links)
            self.assertIs(is_one_lot(links), len(pairs) == len(links) ** 2)
            self.assertIs(has_rounds(links), any([(place, place) in pairs for place in range(len(links))]))


if __name__ == "__main__":
    unittest.main()
