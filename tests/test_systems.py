"""Many small systems of facts and keys, against the slow second opinion."""

import unittest

from splitplans.equalities import Equalities
from splitplans.stepcheck import keeps, shows_apart, shows_same
from splitplans.terms import Term, column_term, function_term, place_term, row_term, rule_term, zero_term

from helpers import Dice, slow_classes, universe

TABLES = ("t", "s")
COLUMNS = ("a", "k")
KEYS = [{}, {"t": ["k"]}, {"t": ["k", "a"], "s": ["a"]}, {"s": ["k"], "t": ["a"]}]


def value(dice, depth):
    if depth < 3 or dice.below(3):
        return column_term(dice.one_of(TABLES), dice.one_of(COLUMNS), dice.below(2) == 1)
    parts = [value(dice, depth - 1) for _ in range(1 + dice.below(2))]
    return function_term(dice.one_of(("f", "g")), *parts)


def term_of(dice):
    kind = dice.below(10)
    if kind < 2:
        return row_term(dice.one_of(TABLES), dice.below(2) == 1)
    if kind < 4:
        return place_term(dice.one_of(TABLES), dice.below(2) == 1)
    if kind == 4:
        return zero_term()
    if kind < 6:
        return rule_term("r", *[value(dice, 3) for _ in range(1 + dice.below(2))])
    return value(dice, 4)


def system(seed):
    dice = Dice(seed)
    facts = [(term_of(dice), term_of(dice)) for _ in range(dice.below(6))]
    terms = [term_of(dice) for _ in range(4)]
    return facts, KEYS[dice.below(len(KEYS))], terms, dice


class ManySystems(unittest.TestCase):
    def test_just_what_follows(self):
        for seed in range(250):
            facts, keys, terms, _ = system(seed)
            classes = slow_classes(facts, keys, terms)
            equalities = Equalities(facts, keys)
            found = list(universe(facts, keys, terms).values())
            for left in found:
                for right in found:
                    told = classes[left.text] == classes[right.text]
                    self.assertEqual(equalities.follows(left, right), told, (seed, left.text, right.text))

    def test_a_derivation_or_a_numbering(self):
        for seed in range(120):
            facts, keys, terms, _ = system(seed)
            equalities = Equalities(facts, keys)
            for left in terms + [side for fact in facts for side in fact]:
                for right in terms:
                    steps = equalities.derive(left, right)
                    numbering = equalities.numbering(left, right)
                    self.assertTrue(keeps(facts, keys, numbering), seed)
                    apart = shows_apart(facts, keys, numbering, left, right)
                    self.assertEqual(apart, steps is None, (seed, left.text, right.text))
                    if steps is not None:
                        self.assertTrue(shows_same(facts, keys, steps, left, right), (seed, left.text, right.text))

    def test_learned_one_by_one(self):
        for seed in range(120):
            facts, keys, terms, _ = system(seed)
            equalities = Equalities([], keys)
            for left in terms:
                for right in terms:
                    equalities.follows(left, right)
            for at, (left, right) in enumerate(facts):
                self.assertEqual(equalities.learn(left, right), at)
                classes = slow_classes(facts[:at + 1], keys, terms)
                numbering = equalities.numbering(*terms)
                self.assertTrue(keeps(facts[:at + 1], keys, numbering))
                for one in terms:
                    for other in terms:
                        told = classes[one.text] == classes[other.text]
                        self.assertEqual(equalities.follows(one, other), told)
                        self.assertEqual(numbering[one.text] == numbering[other.text], told)

    def test_suppose(self):
        for seed in range(60):
            facts, keys, terms, _ = system(seed)
            half = len(facts) // 2
            equalities = Equalities(facts[:half], keys)
            classes = slow_classes(facts, keys, terms)
            for left in terms:
                for right in terms:
                    told = classes[left.text] == classes[right.text]
                    self.assertEqual(equalities.suppose(facts[half:], left, right), told)
            self.assertEqual(equalities.facts, facts[:half])

    def test_changed_derivations_show_nothing_false(self):
        taken = refused = 0
        for seed in range(60):
            facts, keys, terms, dice = system(seed)
            equalities = Equalities(facts, keys)
            found = list(universe(facts, keys, terms).values())
            for left in found:
                right = dice.one_of(found)
                steps = equalities.derive(left, right)
                if steps is None:
                    continue
                for _ in range(6):
                    wrong = change(dice, steps, found)
                    other = dice.one_of(found)
                    for one, two in ((left, right), (left, other), (right, left)):
                        if shows_same(facts, keys, wrong, one, two):
                            taken += 1
                            self.assertTrue(equalities.follows(one, two))
                        else:
                            refused += 1
        self.assertGreater(taken, 20)
        self.assertGreater(refused, 1000)

    def test_changed_numberings_show_nothing_false(self):
        taken = refused = 0
        for seed in range(150):
            facts, keys, terms, dice = system(seed)
            equalities = Equalities(facts, keys)
            numbering = equalities.numbering(*terms)
            for _ in range(10):
                wrong = dict(numbering)
                text = dice.one_of(sorted(wrong))
                wrong[text] = dice.below(len(wrong) + 1)
                if dice.below(3) == 0:
                    del wrong[dice.one_of(sorted(wrong))]
                told = slow_keeps(facts, keys, wrong)
                self.assertEqual(keeps(facts, keys, wrong), told, (seed, wrong))
                taken, refused = taken + told, refused + (not told)
                for left in terms:
                    for right in terms:
                        if shows_apart(facts, keys, wrong, left, right):
                            self.assertFalse(equalities.follows(left, right))
        self.assertGreater(taken, 100)
        self.assertGreater(refused, 100)


def change(dice, steps, terms):
    """The steps with something taken out, doubled, or put in the place of something else."""
    steps = list(steps)
    at = dice.below(len(steps))
    step = list(steps[at])
    kind = dice.below(4)
    if kind == 0:
        del steps[at]
    elif kind == 1:
        steps.insert(dice.below(len(steps)), tuple(step))
    else:
        place = 1 + dice.below(len(step) - 1)
        if isinstance(step[place], list) and step[place]:
            step[place] = list(step[place])
            step[place][dice.below(len(step[place]))] = dice.below(len(steps) + 1) - 1
        elif isinstance(step[place], Term):
            step[place] = dice.one_of(terms)
        else:
            step[place] = dice.below(len(steps) + 1) - 1
        steps[at] = tuple(step)
    return steps


def slow_keeps(facts, keys, numbering):
    """[6], read word by word, of a dict from texts of terms to integers."""
    terms = {text: Term.read(text) for text in numbering}
    for term in terms.values():
        if any(part.text not in numbering for part in term.parts):
            return False
    for left, right in facts:
        if numbering.get(left.text, "left") != numbering.get(right.text, "right"):
            return False
    for one in terms.values():
        for other in terms.values():
            if one.parts and (one.kind, one.name, len(one.parts)) == (other.kind, other.name, len(other.parts)):
                alike = all(numbering[a.text] == numbering[b.text] for a, b in zip(one.parts, other.parts))
                if alike and numbering[one.text] != numbering[other.text]:
                    return False
    for table, names in keys.items():
        if table in numbering and f"{table}'" in numbering:
            if any(f"{row}.{name}" not in numbering for row in (table, f"{table}'") for name in names):
                return False
            alike = all(numbering[f"{table}.{name}"] == numbering[f"{table}'.{name}"] for name in names)
            if alike and numbering[table] != numbering[f"{table}'"]:
                return False
    return True
