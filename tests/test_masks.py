"""Tests of fallenbits.masks: the same writes, ends and boxes as those of patterns that are texts."""

import unittest

from fallenbits.masks import all_steps, bit_weights, block_weights, box_mask, number_of, single_steps
from fallenbits.writes import all_writes, single_writes
from tests.samples import box_of, end_of, shapes, texts_of


def texts_in(mask, sizes):
    return [x for k, x in enumerate(texts_of(sizes)) if (mask >> k) & 1]


class MaskTest(unittest.TestCase):
    def test_numbers(self):
        for sizes in shapes(4):
            self.assertEqual([number_of(x) for x in texts_of(sizes)], list(range(2 ** sum(sizes))))

    def test_weights(self):
        self.assertEqual((bit_weights((2, 1)), block_weights((2, 1))), ([4, 2, 1], [6, 1]))
        self.assertEqual((bit_weights((1, 1, 2)), block_weights((1, 1, 2))), ([8, 4, 2, 1], [8, 4, 3]))

    def test_boxes(self):
        for sizes in shapes(4):
            texts = texts_of(sizes)
            for k, x in enumerate(texts):
                for other, y in enumerate(texts):
                    self.assertEqual(texts_in(box_mask(k, other), sizes), box_of(x, y))

    def test_steps(self):
        for sizes in shapes(4):
            texts = texts_of(sizes)
            for erases in (True, False):
                for steps, writes in ((single_steps(sizes, erases), single_writes), (all_steps(sizes, erases), all_writes)):
                    told = {(texts[k], write, texts[after], tuple(texts_in(near, sizes))) for k, write, after, near in steps}
                    self.assertEqual(len(told), len(steps))
                    self.assertEqual(told, {(x, write, end_of(x, write), tuple(box_of(x, end_of(x, write))))
                                            for x in texts for write in writes(x, erases)})


if __name__ == "__main__":
    unittest.main()
