import random
import unittest

from swapslip import ranges
from swapslip.errors import BadRange, NoNumber, NotTaken
from swapslip.ranges import Numbers

FAR = 10 ** 39


class RangeTest(unittest.TestCase):
    def assert_not_taken(self, numbers, number):
        with self.assertRaises(NotTaken) as held:
            numbers.give(number)
        self.assertEqual(held.exception.number, number)

    def assert_stands(self, numbers, low, high, taken):
        self.assertEqual(numbers.taken(), taken)
        self.assertEqual(numbers.left(), high - low + 1 - len(taken))
        for number in range(low - 2, high + 3):
            self.assertIs(numbers.has(number), low <= number <= high)


class TheRange(RangeTest):
    def test_the_most_number(self):
        self.assertEqual(ranges.MOST_NUMBER, 9999)

    def test_good_ranges(self):
        good = [(1, 1), (1, 2), (1, 64), (5, 5), (5, 68), (9936, 9999), (9999, 9999), (9998, 9999), (9935, 9998)]
        for low, high in good:
            self.assert_stands(Numbers(low, high), low, high, [])

    def test_bad_ranges(self):
        low_below = [(0, 0), (0, 1), (0, 63), (-1, 5), (-5, -1), (-FAR, 1), (-FAR, -FAR)]
        high_below = [(2, 1), (5, 4), (1, 0), (1, -1), (64, 1), (9999, 9998), (FAR, 1)]
        too_wide = [(1, 65), (1, 9999), (5, 69), (9900, 9999), (9935, 9999), (1, FAR)]
        too_high = [(10000, 10000), (9999, 10000), (9937, 10000), (9990, 10001), (FAR, FAR), (FAR, FAR + 1)]
        for low, high in low_below + high_below + too_wide + too_high:
            with self.assertRaises(BadRange, msg=(low, high)):
                Numbers(low, high)

    def test_each_bound_by_itself(self):
        for low in range(-3, 70):
            for high in range(-3, 140):
                good = low >= 1 and low <= high <= low + 63
                try:
                    Numbers(low, high)
                    made = True
                except BadRange:
                    made = False
                self.assertEqual(made, good, (low, high))

    def test_things_by_their_names(self):
        numbers = Numbers(high=9, low=8)
        self.assertEqual(numbers.take(), 8)
        self.assertTrue(numbers.has(number=9))
        numbers.give(number=8)
        self.assertEqual(numbers.taken(), [])


class Take(RangeTest):
    def test_from_the_least_on(self):
        numbers = Numbers(20, 24)
        for count in range(5):
            self.assert_stands(numbers, 20, 24, [20, 21, 22, 23, 24][:count])
            self.assertEqual(numbers.take(), 20 + count)
        self.assert_stands(numbers, 20, 24, [20, 21, 22, 23, 24])

    def test_all_taken(self):
        for low, high in ((7, 7), (1, 64), (9936, 9999)):
            numbers = Numbers(low, high)
            every = [numbers.take() for turn in range(high - low + 1)]
            self.assertEqual(every, list(range(low, high + 1)))
            for turn in range(2):
                self.assertRaises(NoNumber, numbers.take)
                self.assert_stands(numbers, low, high, every)

    def test_the_least_behind_numbers_given_back(self):
        numbers = Numbers(3, 8)
        for turn in range(5):
            numbers.take()
        numbers.give(6)
        numbers.give(4)
        self.assert_stands(numbers, 3, 8, [3, 5, 7])
        self.assertEqual([numbers.take(), numbers.take(), numbers.take()], [4, 6, 8])
        self.assertRaises(NoNumber, numbers.take)

    def test_again_behind_all_taken(self):
        numbers = Numbers(1, 2)
        numbers.take()
        numbers.take()
        self.assertRaises(NoNumber, numbers.take)
        numbers.give(2)
        self.assertEqual(numbers.take(), 2)
        numbers.give(1)
        self.assertEqual(numbers.take(), 1)

    def test_taken_rises_in_whatever_order_they_were_taken(self):
        numbers = Numbers(1, 4)
        for turn in range(4):
            numbers.take()
        for number in (1, 3, 2):
            numbers.give(number)
        numbers.take()
        self.assertEqual(numbers.taken(), [1, 4])


class Give(RangeTest):
    def test_what_is_not_taken(self):
        numbers = Numbers(10, 12)
        numbers.take()
        for number in (11, 12, 9, 13, 0, -1, -10, FAR, -FAR):
            self.assert_not_taken(numbers, number)
            self.assert_stands(numbers, 10, 12, [10])

    def test_not_twice(self):
        numbers = Numbers(10, 12)
        numbers.take()
        numbers.take()
        numbers.give(10)
        self.assert_not_taken(numbers, 10)
        self.assert_stands(numbers, 10, 12, [11])

    def test_all_free_and_all_taken(self):
        numbers = Numbers(5, 6)
        self.assert_not_taken(numbers, 5)
        numbers.take()
        numbers.take()
        self.assert_not_taken(numbers, 4)
        self.assert_not_taken(numbers, 7)
        self.assert_stands(numbers, 5, 6, [5, 6])


class Has(RangeTest):
    def test_free_and_taken_ones_alike(self):
        numbers = Numbers(10, 12)
        numbers.take()
        self.assertEqual([number for number in range(20) if numbers.has(number)], [10, 11, 12])

    def test_far_beyond(self):
        for number in (FAR, -FAR, 0, -11):
            self.assertIs(Numbers(10, 12).has(number), False)


class Several(RangeTest):
    def test_two_ranges_do_not_know_of_each_other(self):
        first, second = Numbers(1, 5), Numbers(1, 5)
        self.assertEqual([first.take(), first.take(), second.take()], [1, 2, 1])
        first.give(1)
        self.assert_stands(first, 1, 5, [2])
        self.assert_stands(second, 1, 5, [1])
        self.assert_not_taken(second, 2)

    def test_a_told_list_that_is_changed_changes_nothing(self):
        numbers = Numbers(1, 3)
        numbers.take()
        told = numbers.taken()
        told.append(2)
        told[0] = 9
        self.assert_stands(numbers, 1, 3, [1])
        self.assertEqual(numbers.take(), 2)
        self.assertEqual(told, [9, 2])

    def test_a_twin_goes_its_own_way(self):
        numbers = Numbers(1, 5)
        numbers.take()
        twin = numbers.twin()
        self.assert_stands(twin, 1, 5, [1])
        self.assertEqual([twin.take(), twin.take()], [2, 3])
        numbers.give(1)
        self.assert_stands(numbers, 1, 5, [])
        self.assert_stands(twin, 1, 5, [1, 2, 3])

    def test_a_long_course(self):
        rng = random.Random(7)
        numbers, taken = Numbers(100, 111), set()
        for turn in range(3000):
            free = set(range(100, 112)) - taken
            number = rng.randint(98, 113)
            if rng.random() < 0.5 and free:
                self.assertEqual(numbers.take(), min(free))
                taken.add(min(free))
            elif number in taken:
                self.assertIsNone(numbers.give(number))
                taken.remove(number)
            else:
                self.assert_not_taken(numbers, number)
            self.assert_stands(numbers, 100, 111, sorted(taken))
