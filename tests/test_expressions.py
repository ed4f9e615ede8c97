"""[4], [6] to [9] Expressions: their faults, values, names and nodes."""

import copy
import unittest

from tests.helpers import Other, bush, chain, nested, odd_values, random_expression, some_random
from wordsalike.errors import TooDeep, TooLarge
from wordsalike.expressions import expression_fault, names_used, node_count, value_at, with_expression

A, B, C, D = [("name", index) for index in range(4)]
ONE = ("number", 1)
UNARY = ("not", "neg")
BINARY = ("add", "sub", "mul", "and", "or", "xor", "less", "same")
SHIFTS = ("left", "right", "signed")
DIVISIONS = ("quo", "rem")


def depth_of(expression):
    return 1 + max([depth_of(part) for part in expression if isinstance(part, tuple)], default=0)


class FaultTests(unittest.TestCase):
    def test_examples(self):
        self.assertEqual(expression_fault(("left", A, 64)), ((2,), "number"))
        self.assertEqual(expression_fault(("add", A, ("name", 4))), ((2, 1), "number"))
        self.assertIsNone(expression_fault(("name", 1)))
        self.assertEqual(expression_fault(("neg",)), ((), "node"))

    def test_values_of_all_kinds(self):
        for value in [*odd_values(), Other(), 3]:
            self.assertEqual(expression_fault(value), ((), "node"))
            self.assertEqual(expression_fault(("add", A, value)), ((2,), "node"))
            for operation in ("name", "number"):
                if value not in (3, -1, 2 ** 64):
                    self.assertEqual(expression_fault((operation, value)), ((1,), "number"))

    def test_each_operation_takes_its_items(self):
        counts = {**dict.fromkeys(UNARY, 1), **dict.fromkeys(BINARY, 2), "pick": 3}
        for operation, count in counts.items():
            for many in range(6):
                fault = expression_fault((operation, *[A] * many))
                self.assertEqual(fault, None if many == count else ((), "node"), (operation, many))
        for operation in (*SHIFTS, *DIVISIONS):
            self.assertIsNone(expression_fault((operation, A, 1)))
            for items in ((), (A,), (A, 1, 1), (A, A, 1)):
                self.assertEqual(expression_fault((operation, *items)), ((), "node"))
            self.assertEqual(expression_fault((operation, A, A)), ((2,), "number"))
            self.assertEqual(expression_fault((operation, 1, 1)), ((1,), "node"))
        for operation in ("name", "number"):
            self.assertEqual(expression_fault((operation,)), ((), "node"))
            self.assertEqual(expression_fault((operation, 0, 0)), ((), "node"))
        for operation in ("scale", "input", "", "Add", 0, None, ("add",), ["add"], {}):
            self.assertEqual(expression_fault((operation, A, B)), ((), "node"))
        self.assertEqual(expression_fault(["add", A, B]), ((), "node"))

    def test_bounds_of_numbers(self):
        bounds = {"name": (0, 3), "number": (0, 2 ** 64 - 1), **dict.fromkeys(SHIFTS, (0, 63)),
                  **dict.fromkeys(DIVISIONS, (1, 2 ** 64 - 1))}
        for operation, (low, high) in bounds.items():
            parts = () if operation in ("name", "number") else (A,)
            place = 1 + len(parts)
            for number in (low, high, low + 1, high - 1):
                self.assertIsNone(expression_fault((operation, *parts, number)))
            for number in (low - 1, high + 1, -1, 10 ** 399, True, False, None, "1", (1,), [1]):
                self.assertEqual(expression_fault((operation, *parts, number)), ((place,), "number"))

    def test_order_of_nodes(self):
        bad, worse = ("name", 4), ("name",)
        self.assertEqual(expression_fault(("left", worse, 64)), ((2,), "number"))
        self.assertEqual(expression_fault(("left", worse, 63)), ((1,), "node"))
        self.assertEqual(expression_fault(("pick", ("neg", bad), worse, bad)), ((1, 1, 1), "number"))
        self.assertEqual(expression_fault(("pick", A, ("not", worse), bad)), ((2, 1), "node"))
        self.assertEqual(expression_fault(("pick", A, B, ("quo", worse, 0))), ((3, 2), "number"))
        self.assertEqual(expression_fault(("add", ("add", A, ("add", A, bad)), worse)), ((1, 2, 2, 1), "number"))

    def test_depth(self):
        self.assertIsNone(expression_fault(chain(39)))
        self.assertIsNone(expression_fault(chain(40)))
        for depth in (41, 42, 80, 81):
            self.assertEqual(expression_fault(chain(depth)), ((1,) * 40, "deep"))
        path = (2, *[1] * 39)
        self.assertEqual(expression_fault(("add", A, chain(40))), (path, "deep"))
        # "deep" comes before the other reasons, and a fault that stands before it is the first.
        deep = ("name", 4)
        for _ in range(40):
            deep = ("not", deep)
        self.assertEqual(expression_fault(deep), ((1,) * 40, "deep"))
        self.assertEqual(expression_fault(nested(5, 80)), ((), "node"))
        self.assertEqual(expression_fault(("add", chain(40), ("name",))), ((1,) * 40, "deep"))
        self.assertEqual(expression_fault(("add", ("name",), chain(40))), ((1,), "node"))
        self.assertEqual(expression_fault(("add", chain(39), ("name",))), ((2,), "node"))

    def test_number_of_nodes(self):
        for nodes in (1, 2, 3, 198, 199, 200):
            self.assertEqual(node_count(bush(nodes)), nodes)
            self.assertIsNone(expression_fault(bush(nodes)))
        for nodes in (201, 202, 1000, 3000):
            self.assertEqual(expression_fault(bush(nodes)), ((), "nodes"))
        self.assertEqual(expression_fault(("add", bush(200), ("name", 4))), ((2, 1), "number"))
        self.assertEqual(expression_fault(("add", bush(200), chain(40))), ((2, *[1] * 39), "deep"))
        self.assertEqual(expression_fault(("add", bush(200), 0)), ((2,), "node"))

    def test_the_value_is_unchanged(self):
        value = ["add", {"a": [1]}, (2, [3])]
        kept = copy.deepcopy(value)
        expression_fault(value)
        expression_fault(("neg", value))
        self.assertEqual(value, kept)


def expected(operation, width, items):
    """The value by the words of [4], for words as parts."""
    power = 2 ** width
    x = items[0]
    y = items[1] if len(items) > 1 else None
    signed = x - power if x >= power // 2 else x
    if operation == "and":
        return sum(2 ** j for j in range(width) if x // 2 ** j % 2 == 1 and y // 2 ** j % 2 == 1)
    if operation == "or":
        return sum(2 ** j for j in range(width) if x // 2 ** j % 2 == 1 or y // 2 ** j % 2 == 1)
    if operation == "xor":
        return sum(2 ** j for j in range(width) if x // 2 ** j % 2 != y // 2 ** j % 2)
    if operation == "pick":
        return items[1] if x != 0 else items[2]
    return {
        "not": lambda: power - 1 - x, "neg": lambda: -x % power, "add": lambda: (x + y) % power,
        "sub": lambda: (x - y) % power, "mul": lambda: x * y % power, "left": lambda: x * 2 ** y % power,
        "right": lambda: x // 2 ** y, "signed": lambda: signed // 2 ** y % power, "quo": lambda: x // y,
        "rem": lambda: x % y, "less": lambda: 1 if x < y else 0, "same": lambda: 1 if x == y else 0,
    }[operation]()


class ValueTests(unittest.TestCase):
    def words(self, width):
        power = 2 ** width
        words = {0, 1, 2, 3, power // 2 - 1, power // 2, power // 2 + 1, power - 2, power - 1, power // 3}
        return sorted(word for word in words if 0 <= word < power)

    def test_example(self):
        self.assertEqual(value_at(("sub", A, ("number", 3)), 8, (1, 0, 0, 0)), 254)

    def test_names_and_numbers(self):
        for width in range(1, 65):
            words = (1, 0, 2 ** width - 1, 2 ** (width - 1))
            self.assertEqual(tuple(value_at(name, width, words) for name in (A, B, C, D)), words)
            for number in (0, 1, 2 ** width - 1, 2 ** 64 - 1, 12345678901234567890):
                self.assertEqual(value_at(("number", number), width, words), number % 2 ** width)

    def test_operations_on_words(self):
        for width in range(1, 65):
            words = self.words(width)
            for x in words:
                for operation in UNARY:
                    value = value_at((operation, A), width, (x, 0, 0, 0))
                    self.assertEqual(value, expected(operation, width, (x,)))
                for y in words:
                    for operation in BINARY:
                        value = value_at((operation, B, D), width, (0, x, 0, y))
                        self.assertEqual(value, expected(operation, width, (x, y)), (operation, width, x, y))

    def test_amounts_and_divisors(self):
        for width in (*range(1, 12), 31, 32, 33, 63, 64):
            divisors = {1, 2, 3, 10, 2 ** width - 1, 2 ** width, 2 ** width + 1, 2 ** 63, 2 ** 64 - 1}
            for x in self.words(width):
                for operation in SHIFTS:
                    for amount in range(64):
                        value = value_at((operation, C, amount), width, (0, 0, x, 0))
                        self.assertEqual(value, expected(operation, width, (x, amount)))
                for operation in DIVISIONS:
                    for divisor in sorted(d for d in divisors if 1 <= d < 2 ** 64):
                        value = value_at((operation, C, divisor), width, (0, 0, x, 0))
                        self.assertEqual(value, expected(operation, width, (x, divisor)))

    def test_pick(self):
        for width in (1, 2, 8, 64):
            for x in self.words(width):
                value = value_at(("pick", A, B, C), width, (x, 1, 0, 0))
                self.assertEqual(value, 1 if x != 0 else 0)
        self.assertEqual(value_at(("pick", ("number", 256), A, B), 8, (7, 9, 0, 0)), 9)

    def test_nested(self):
        rng = some_random(4)
        for _ in range(300):
            width = rng.randrange(1, 65)
            words = tuple(rng.randrange(2 ** width) for _ in range(4))
            expression = random_expression(rng, rng.randrange(1, 60))
            self.assertEqual(value_at(expression, width, words), self.slow_value(expression, width, words))

    def slow_value(self, expression, width, words):
        if expression[0] == "name":
            return words[expression[1]]
        if expression[0] == "number":
            return expression[1] % 2 ** width
        items = [self.slow_value(item, width, words) if isinstance(item, tuple) else item for item in expression[1:]]
        return expected(expression[0], width, items)

    def test_at_the_limits(self):
        self.assertEqual(value_at(chain(40), 8, (5, 0, 0, 0)), 250)
        self.assertEqual(value_at(bush(200), 64, (0, 0, 0, 0)), 0)
        whole = value_at(bush(199), 64, (0, 1, 0, 0))
        self.assertEqual(whole, self.slow_value(bush(199), 64, (0, 1, 0, 0)))


class NameTests(unittest.TestCase):
    def test_examples(self):
        expression = ("and", C, ("neg", A))
        self.assertEqual((names_used(expression), node_count(expression)), ((0, 2), 4))
        self.assertEqual(with_expression(("add", A, B), 1, ("number", 7)), ("add", A, ("number", 7)))

    def test_names_used(self):
        self.assertEqual(names_used(ONE), ())
        self.assertEqual(names_used(("number", 3)), ())
        self.assertEqual(names_used(("left", D, 2)), (3,))
        self.assertEqual(names_used(("pick", D, ("quo", B, 2), ("add", C, D))), (1, 2, 3))
        self.assertEqual(names_used(("add", ("add", D, C), ("add", B, A))), (0, 1, 2, 3))
        self.assertEqual(names_used(bush(200)), (1,))

    def test_node_count(self):
        self.assertEqual(node_count(A), 1)
        self.assertEqual(node_count(("left", A, 63)), 2)
        self.assertEqual(node_count(("rem", ("number", 5), 63)), 2)
        self.assertEqual(node_count(("pick", A, A, ("not", A))), 5)
        self.assertEqual(node_count(chain(40)), 40)

    def test_with_expression(self):
        double = ("add", A, A)
        self.assertEqual(with_expression(double, 0, double), ("add", double, double))
        self.assertEqual(with_expression(double, 1, ONE), double)
        self.assertEqual(with_expression(A, 0, ("neg", B)), ("neg", B))
        self.assertEqual(with_expression(("number", 1), 1, B), ("number", 1))
        self.assertEqual(with_expression(("left", A, 0), 0, C), ("left", C, 0))
        self.assertEqual(with_expression(("rem", ("quo", B, 1), 1), 1, D), ("rem", ("quo", D, 1), 1))
        self.assertEqual(with_expression(("pick", A, B, A), 0, B), ("pick", B, B, B))
        self.assertEqual(double, ("add", ("name", 0), ("name", 0)))

    def test_with_expression_keeps_values(self):
        rng = some_random(9)
        for _ in range(200):
            one = random_expression(rng, rng.randrange(1, 14))
            other = random_expression(rng, rng.randrange(1, 10))
            name = rng.randrange(4)
            width = rng.randrange(1, 65)
            words = [rng.randrange(2 ** width) for _ in range(4)]
            whole = with_expression(one, name, other)
            self.assertIsNone(expression_fault(whole))
            inner = list(words)
            inner[name] = value_at(other, width, tuple(words))
            self.assertEqual(value_at(whole, width, tuple(words)), value_at(one, width, tuple(inner)))

    def limit_of(self, kind, *arguments):
        with self.assertRaises(kind) as caught:
            with_expression(*arguments)
        return caught.exception.limit

    def test_too_large(self):
        self.assertEqual(node_count(with_expression(("add", A, B), 1, bush(198))), 200)
        self.assertEqual(self.limit_of(TooLarge, ("add", A, B), 1, bush(199)), 200)
        self.assertEqual(self.limit_of(TooLarge, bush(200), 1, ("neg", B)), 200)
        self.assertEqual(self.limit_of(TooLarge, bush(200), 1, bush(200)), 200)
        self.assertEqual(with_expression(bush(200), 0, bush(200)), bush(200))
        self.assertEqual(with_expression(bush(200), 1, B), bush(200))
        # Two occurrences of a name: 3 + 2 * 98 and 3 + 2 * 99 nodes.
        self.assertEqual(node_count(with_expression(("add", A, A), 0, bush(99))), 199)
        self.assertEqual(node_count(with_expression(("pick", A, A, B), 0, bush(99))), 200)
        self.assertEqual(self.limit_of(TooLarge, ("add", A, A), 0, bush(100)), 200)

    def test_too_deep(self):
        self.assertEqual(depth_of(with_expression(chain(20), 0, chain(21))), 40)
        self.assertEqual(self.limit_of(TooDeep, chain(20), 0, chain(22)), 40)
        self.assertEqual(self.limit_of(TooDeep, chain(40), 0, chain(40)), 40)
        self.assertEqual(with_expression(chain(40), 1, chain(40)), chain(40))
        self.assertEqual(with_expression(chain(40), 0, B)[0], "not")

    def test_too_large_comes_first(self):
        deep = ("add", chain(39), bush(40))
        self.assertEqual(self.limit_of(TooLarge, deep, 0, bush(200)), 200)
        self.assertEqual(self.limit_of(TooLarge, ("add", chain(39), ("add", A, A)), 0, chain(60)), 200)
        self.assertEqual(self.limit_of(TooDeep, ("add", chain(39), B), 0, chain(10)), 40)


if __name__ == "__main__":
    unittest.main()
