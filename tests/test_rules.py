"""Points 4 to 6: stances, rules and books."""

import itertools
import unittest

from whomayname.errors import Taken, Unknown
from whomayname.rules import STANCES, Book, Rule

OWN = ("own", "nested", "around", "below", "heir", "package", "any")
NESTED = ("nested", "below", "heir", "package", "any")
AROUND = ("around", "package", "any")
BELOW = ("below", "heir", "package", "any")
FAR_BELOW = ("below", "heir", "any")
HEIR = ("heir", "package", "any")
FAR_HEIR = ("heir", "any")
PACKAGE = ("package", "any")
ANY = ("any",)
IN_ORDER = (OWN, NESTED, AROUND, BELOW, FAR_BELOW, HEIR, FAR_HEIR, PACKAGE, ANY)

LET_BY_WORD = {
    "own": (OWN,),
    "nested": (OWN, NESTED),
    "around": (OWN, AROUND),
    "below": (OWN, NESTED, BELOW, FAR_BELOW),
    "heir": (OWN, NESTED, BELOW, FAR_BELOW, HEIR, FAR_HEIR),
    "package": (OWN, NESTED, AROUND, BELOW, HEIR, PACKAGE),
    "any": IN_ORDER,
}


def ordered(stances):
    return tuple(stance for stance in IN_ORDER if stance in stances)


def some_rules():
    """Rules of no word, of each word and of each two words, with what they let."""
    found = [(Rule.of(), ())]
    for word, let in LET_BY_WORD.items():
        found.append((Rule.of(word), let))
    for one, two in itertools.combinations(LET_BY_WORD, 2):
        found.append((Rule.of(one, two), ordered(LET_BY_WORD[one] + LET_BY_WORD[two])))
    return found


class Stances(unittest.TestCase):
    def test_nine_in_order(self):
        self.assertIs(type(STANCES), tuple)
        self.assertEqual(STANCES, IN_ORDER)


class OneRule(unittest.TestCase):
    def test_no_word_lets_nothing(self):
        self.assertEqual(Rule.of().stances, ())

    def test_each_word(self):
        for word, let in LET_BY_WORD.items():
            self.assertEqual(Rule.of(word).stances, let, word)

    def test_several_words_let_what_some_word_lets(self):
        for count in range(2, 8):
            for words in itertools.combinations(LET_BY_WORD, count):
                let = ordered(sum([LET_BY_WORD[word] for word in words], ()))
                self.assertEqual(Rule.of(*words).stances, let, words)
                self.assertEqual(Rule.of(*reversed(words)).stances, let, words)

    def test_equal_words(self):
        self.assertEqual(Rule.of("around", "around").stances, (OWN, AROUND))
        self.assertEqual(Rule.of("heir", "own", "heir").stances, LET_BY_WORD["heir"])

    def test_stances_is_a_tuple(self):
        for words in ((), ("any",), ("own", "package")):
            self.assertIs(type(Rule.of(*words).stances), tuple)

    def test_stances_stay_after_other_rules(self):
        first = Rule.of("around")
        self.assertEqual(first.stances, (OWN, AROUND))
        second = Rule.of("any")
        Rule.of()
        self.assertEqual(first.stances, (OWN, AROUND))
        self.assertEqual(second.stances, IN_ORDER)

    def test_in(self):
        for rule, let in some_rules():
            for stance in IN_ORDER:
                self.assertIs(stance in rule, stance in let)

    def test_in_takes_whole_stances_only(self):
        rule = Rule.of("any")
        for other in ("any", (), ("own",), ("any", "package"), ("package",), OWN[:-1]):
            self.assertIs(other in rule, False, other)


class TwoRules(unittest.TestCase):
    def test_and_or(self):
        for (a, lets_a), (b, lets_b) in itertools.product(some_rules(), repeat=2):
            both = tuple(stance for stance in lets_a if stance in lets_b)
            self.assertEqual((a & b).stances, both)
            self.assertEqual((a | b).stances, ordered(lets_a + lets_b))
            self.assertEqual((a.stances, b.stances), (lets_a, lets_b))

    def test_results_are_rules(self):
        a, b = Rule.of("nested"), Rule.of("around")
        self.assertIsInstance(a & b, Rule)
        self.assertIsInstance(a | b, Rule)
        self.assertEqual(((a | b) & Rule.of("package")).stances, (OWN, NESTED, AROUND))
        self.assertEqual(((a & b) | Rule.of("below")).stances, LET_BY_WORD["below"])
        self.assertIs(a & b <= a, True)
        self.assertIs(NESTED in a & b, False)
        self.assertIs(NESTED in a | b, True)

    def test_less_or_equal(self):
        for (a, lets_a), (b, lets_b) in itertools.product(some_rules(), repeat=2):
            self.assertIs(a <= b, set(lets_a) <= set(lets_b), (lets_a, lets_b))

    def test_not_less_in_either_direction(self):
        a, b = Rule.of("nested"), Rule.of("around")
        self.assertIs(a <= b, False)
        self.assertIs(b <= a, False)


def book_of(**words):
    return Book([(level, Rule.of(*text.split())) for level, text in words.items()])


class OneBook(unittest.TestCase):
    def test_levels_in_order(self):
        any_rule = Rule.of("any")
        for levels in ((), ("b",), ("c", "a", "b"), ("b", "c", "a"), tuple("fadcbe"), tuple("zyxwvuts")):
            book = Book([(level, any_rule) for level in levels])
            self.assertEqual(book.levels, list(levels))
            self.assertIs(type(book.levels), list)
            self.assertEqual(list(book), list(levels))
            self.assertEqual([level for level in book], list(levels))
            self.assertEqual(list(book), list(levels))

    def test_taken(self):
        cases = [("aa", "a"), ("aba", "a"), ("abba", "b"), ("abab", "a"), ("abcb", "b"), ("abcca", "c")]
        for levels, what in cases:
            with self.assertRaises(Taken) as caught:
                Book([(level, Rule.of("any")) for level in levels])
            self.assertEqual((caught.exception.what, caught.exception.row), (what, None), levels)

    def test_taken_also_for_an_equal_rule(self):
        rule = Rule.of("own")
        with self.assertRaises(Taken):
            Book([("a", rule), ("a", rule)])

    def test_index(self):
        book = book_of(a="own", b="package", c="")
        self.assertEqual(book["a"].stances, LET_BY_WORD["own"])
        self.assertEqual(book["b"].stances, LET_BY_WORD["package"])
        self.assertEqual(book["c"].stances, ())
        self.assertIsInstance(book["a"], Rule)

    def test_unknown_level(self):
        for book, level in ((book_of(a="own"), "b"), (Book([]), "a"), (Book.usual(), "own")):
            with self.assertRaises(Unknown) as caught:
                book[level]
            self.assertEqual((caught.exception.what, caught.exception.row), (level, None))

    def test_in(self):
        book = book_of(a="own", b="")
        self.assertIs("a" in book, True)
        self.assertIs("b" in book, True)
        self.assertIs("c" in book, False)
        self.assertIs("own" in book, False)
        self.assertIs("a" in Book([]), False)

    def test_passed_list_is_copied(self):
        pairs = [("a", Rule.of("own")), ("b", Rule.of("any"))]
        book = Book(pairs)
        pairs[0] = ("z", Rule.of("any"))
        pairs.append(("c", Rule.of()))
        self.assertEqual(book.levels, ["a", "b"])
        self.assertEqual(book["a"].stances, (OWN,))
        self.assertIs("c" in book, False)
        pairs.clear()
        self.assertEqual(list(book), ["a", "b"])

    def test_told_list_is_a_copy(self):
        book = book_of(a="own", b="any")
        told = book.levels
        told.append("c")
        told[0] = "z"
        self.assertEqual(book.levels, ["a", "b"])
        self.assertEqual(list(book), ["a", "b"])
        self.assertIs("c" in book, False)
        self.assertIs("a" in book, True)

    def test_books_beside_each_other(self):
        one, two = book_of(a="own"), book_of(b="any")
        self.assertEqual((one.levels, two.levels), (["a"], ["b"]))
        self.assertIs("b" in one, False)


class TwoBooks(unittest.TestCase):
    def test_against_itself(self):
        for book in (Book([]), Book.usual(), book_of(a="own", b="around", c="own", d="")):
            self.assertIs(book <= book, True)

    def test_other_lacks_a_level(self):
        self.assertIs(book_of(a="own", b="any") <= book_of(a="own"), False)
        self.assertIs(book_of(a="own", b="any") <= book_of(b="any"), False)
        self.assertIs(book_of(a="own") <= book_of(a="own", b="any"), True)
        self.assertIs(Book([]) <= book_of(a="own"), True)
        self.assertIs(book_of(a="") <= Book([]), False)

    def test_other_lets_less(self):
        self.assertIs(book_of(a="own", b="any") <= book_of(a="own", b="package"), False)
        self.assertIs(book_of(a="nested", b="any") <= book_of(a="own", b="any"), False)
        self.assertIs(book_of(a="own", b="package") <= book_of(a="nested", b="any"), True)
        self.assertIs(book_of(a="nested") <= book_of(a="around"), False)

    def test_other_loses_an_order(self):
        lower = book_of(a="own", b="package")
        self.assertIs(lower <= book_of(a="around", b="package"), True)
        self.assertIs(lower <= book_of(a="heir", b="package"), False)
        self.assertIs(book_of(b="package", a="own") <= book_of(a="heir", b="package"), False)
        self.assertIs(book_of(a="own", b="own") <= book_of(a="own", b="nested"), False)
        self.assertIs(book_of(a="own", b="own") <= book_of(a="nested", b="own"), False)

    def test_other_may_gain_an_order(self):
        self.assertIs(book_of(a="nested", b="around") <= book_of(a="nested", b="nested around"), True)
        self.assertIs(book_of(a="nested", b="around") <= book_of(a="any", b="any"), True)

    def test_orders_with_levels_of_other_alone_do_not_count(self):
        self.assertIs(book_of(a="own") <= book_of(z="any", a="nested", b="own"), True)

    def test_order_of_levels_does_not_count(self):
        self.assertIs(book_of(a="own", b="any") <= book_of(b="any", a="own"), True)

    def test_all_books_of_two_levels(self):
        words = ("", "own", "nested", "around", "package")
        books = [(one, two, book_of(a=one, b=two)) for one in words for two in words]
        for (a, b, book), (c, d, other) in itertools.product(books, repeat=2):
            pairs = ((a, c), (b, d))
            kept = all(below(low, high) for low, high in pairs)
            order = all(below(other_x, other_y) or not below(x, y)
                        for (x, other_x), (y, other_y) in itertools.product(pairs, repeat=2))
            self.assertIs(book <= other, kept and order, (a, b, c, d))


def below(low, high):
    return set(LET_BY_WORD.get(low, ())) <= set(LET_BY_WORD.get(high, ()))


class Usual(unittest.TestCase):
    def check(self, book):
        self.assertIsInstance(book, Book)
        self.assertEqual(book.levels, ["private", "package", "protected", "public"])
        self.assertEqual(book["private"].stances, (OWN, NESTED, AROUND))
        self.assertEqual(book["package"].stances, LET_BY_WORD["package"])
        self.assertEqual(book["protected"].stances, (OWN, NESTED, AROUND, BELOW, FAR_BELOW, HEIR, PACKAGE))
        self.assertEqual(book["public"].stances, IN_ORDER)

    def test_twice(self):
        first = Book.usual()
        self.check(first)
        first.levels.append("more")
        second = Book.usual()
        self.check(second)
        self.check(first)
        self.assertIs(first <= second and second <= first, True)


if __name__ == "__main__":
    unittest.main()
