"""Closed tables and their looker: point 33."""

import unittest

from splitplans.equalities import Equalities
from splitplans.fewcheck import shows_no_fewer
from splitplans.fewest import ClosedTable, fewest
from splitplans.places import State
from splitplans.plans import Plan, scan
from splitplans.stepcheck import keeps
from splitplans.stories import Story, pair_facts
from splitplans.tables import Table
from splitplans.terms import place_term, zero_term

from helpers import Dice, read
from planmaker import drawn_menu, drawn_small_plan

A = Table("a", ["k", "x"])
B = Table("b", ["j", "y"])
C = Table("c", ["h", "z"])
DEALT_A = A.with_lie(("dealt", "r", ("k",)))
DEALT_B = B.with_lie(("dealt", "r", ("j",)))
COPIED_C = C.with_lie(("copied",))
GATHER, BROADCAST, SPLIT = ("gather",), ("broadcast",), ("split", "r", ("x",))
ZERO = State(zero_term())

JOINED = Plan(scan(DEALT_A).join_with(scan(B), [("x", "j")]).group_by("x", n="count"))
JOINED_MENU = [GATHER, SPLIT, ("split", "r", ("j",))]
WAITING = Plan(scan(COPIED_C).anti_with(scan(DEALT_A), [("h", "k")]).anti_with(scan(DEALT_B), [("h", "j")]))
WAITING_MENU = [GATHER, ("split", "r", ("h",))]
UNION = Plan((scan(A) + scan(COPIED_C)).group_by("k", n="count"))
UNION_MENU = [GATHER, ("split", "r", ("k",)), BROADCAST]
PLANS = [(JOINED, JOINED_MENU), (WAITING, WAITING_MENU), (UNION, UNION_MENU)]


def copied(table):
    """Its parts: dicts that may be changed."""
    return [{at: dict(part[at]) for at in part} for part in (table.numberings, table.pairs)] + [
        {number: list(part[number]) for number in part} for part in (table.made, table.sent)]


def changed(table, change):
    """The table with a change made to its parts."""
    parts = copied(table)
    change(*parts)
    return ClosedTable(*parts)


def sorted_rows(pairs):
    return sorted((tuple(str(state) for state in row), cost) for row, cost in pairs)


class Tables(unittest.TestCase):
    def test_what_it_has(self):
        for plan, menu in PLANS:
            table = fewest(plan, menu).table
            levels = [(choice, level) for choice, level in table.numberings]
            for choice, level in levels:
                self.assertTrue(keeps(Story(plan, choice).facts_at(level), {}, table.numberings[choice, level]))
            for number, choice, other in table.pairs:
                story = Story(plan, choice)
                self.assertTrue(keeps(pair_facts(plan, choice, number, other), story.table_keys(),
                                      table.pairs[number, choice, other]))
            self.assertEqual(sorted(table.made), list(range(1, len(plan) + 1)))
            self.assertEqual(sorted(table.sent), sorted(table.made))
            for lists in list(table.made.values()) + list(table.sent.values()):
                for row, cost in lists:
                    self.assertIsInstance(cost, int)
                    self.assertEqual(len(row), 1 + len(plan.unions))
        waiting = fewest(WAITING, WAITING_MENU).table
        self.assertEqual(sorted(waiting.numberings), [((), ()), ((), (3,)), ((), (5,))])
        self.assertEqual(waiting.pairs, {})
        left, right = ("left",), ("right",)
        union = fewest(UNION, UNION_MENU).table
        self.assertEqual(sorted(union.numberings), [(left, ()), (right, ())])
        self.assertEqual(sorted(union.pairs), [(4, one, other) for one in (left, right) for other in (left, right)])

    def test_rows(self):
        table = fewest(UNION, UNION_MENU).table
        self.assertEqual(table.made[1], [((State(place_term("a")), None), 0)])
        self.assertEqual(table.made[2], [((None, State()), 0)])
        self.assertIn(((ZERO, State()), 1), table.made[3])
        for lists in list(table.made.values()) + list(table.sent.values()):
            texts = [tuple(str(state) for state in row) for row, _ in lists]
            self.assertEqual(len(set(texts)), len(texts))

    def test_wants_in_rows(self):
        table = fewest(WAITING, WAITING_MENU).table
        texts = [str(row[0]) for row, _ in table.made[5]]
        self.assertIn("everywhere, wants 3 r[a.k], 5 r[b.j]", texts)
        self.assertIn("everywhere, wants 3 0, 5 r[b.j]", texts)
        self.assertEqual([(str(row[0]), cost) for row, cost in table.made[2]], [("at r[a.k]", 0)])
        self.assertEqual([(str(row[0]), cost) for row, cost in table.sent[2]], [("at r[a.k]", 0), ("at 0", 1)])

    def test_loose_and_strict_exchanges(self):
        """What lies everywhere is brought together where it is loose, not where it is strict."""
        loose = fewest(Plan(scan(COPIED_C).distinct()), [GATHER]).table
        self.assertEqual(loose.sent[1], [((State(),), 0), ((ZERO,), 1)])
        self.assertEqual(loose.sent[2], [((State(),), 0), ((ZERO,), 1)])
        strict = fewest(Plan(scan(COPIED_C)), [GATHER]).table
        self.assertEqual(strict.sent[1], [((State(),), 0)])

    def test_collapses_and_antis_of_one_choice(self):
        left, right = ("left",), ("right",)
        root = scan(A).group_by("k", n="count") + scan(COPIED_C).anti_with(scan(B), [("h", "j")])
        table = fewest(Plan(root), [GATHER]).table
        self.assertEqual(sorted(table.pairs), [(2, left, left)])
        self.assertEqual(sorted(table.numberings), [(left, ()), (right, ()), (right, (5,))])
        self.assertTrue(shows_no_fewer(Plan(root), [GATHER], table, 2))

    def test_what_is_passed_is_copied(self):
        numberings, pairs, made, sent = copied(fewest(JOINED, JOINED_MENU).table)
        table = ClosedTable(numberings, pairs, made, sent)
        wanted = copied(table)
        for part in (numberings, pairs, made, sent):
            for each in part.values():
                each.clear()
            part.clear()
        self.assertEqual(copied(table), wanted)

    def test_another_makers_table(self):
        """Put together by hand from the document's words."""
        plan = Plan(scan(A))
        rows = [((State(place_term("a")),), 0), ((ZERO,), 1)]
        numbering = Equalities([]).numbering(place_term("a"), zero_term())
        table = ClosedTable({((), ()): numbering}, {}, {1: rows[:1]}, {1: rows})
        self.assertTrue(shows_no_fewer(plan, [GATHER], table, 1))
        self.assertFalse(shows_no_fewer(plan, [GATHER], table, 2))
        self.assertFalse(shows_no_fewer(plan, [GATHER], table, None))
        self.assertFalse(shows_no_fewer(plan, [GATHER, BROADCAST], table, 1))
        rows.append(((State(),), 1))
        table = ClosedTable({((), ()): numbering}, {}, {1: rows[:1]}, {1: rows})
        self.assertTrue(shows_no_fewer(plan, [GATHER, BROADCAST], table, 1))
        self.assertTrue(shows_no_fewer(plan, [GATHER], table, 1))


class Looker(unittest.TestCase):
    def setUp(self):
        self.found = [(plan, menu, fewest(plan, menu)) for plan, menu in PLANS]

    def shows(self, plan, menu, table, cost, change):
        return shows_no_fewer(plan, menu, changed(table, change), cost)

    def test_costs(self):
        self.assertEqual([placing.cost for _, _, placing in self.found], [2, 1, 1])
        for plan, menu, placing in self.found:
            for cost in range(-2, placing.cost + 1):
                self.assertTrue(shows_no_fewer(plan, menu, placing.table, cost))
            for cost in (placing.cost + 1, 50, None):
                self.assertFalse(shows_no_fewer(plan, menu, placing.table, cost))

    def test_no_placing_at_all(self):
        plan = Plan(scan(A).join_with(scan(B), [("k", "j")]))
        menu = [("split", "r", ("k",)), ("split", "r", ("j",))]
        table = fewest(plan, menu).table
        for cost in (None, 0, 1, 99):
            self.assertTrue(shows_no_fewer(plan, menu, table, cost))
        self.assertFalse(shows_no_fewer(plan, menu + [GATHER], table, None))

    def test_a_cost_more(self):
        for plan, menu, placing in self.found:
            for at in (2, 3):
                for number in range(1, len(plan) + 1):
                    for index in range(len(copied(placing.table)[at][number])):
                        def change(*parts):
                            row, cost = parts[at][number][index]
                            parts[at][number][index] = (row, cost + 1)
                        self.assertFalse(self.shows(plan, menu, placing.table, placing.cost, change), (at, number, index))

    def test_a_cost_less(self):
        """What is said to cost less must make all that it makes for less, down to the end."""
        for plan, menu, placing in self.found:
            for number in range(1, len(plan)):
                def change(numberings, pairs, made, sent):
                    row, cost = made[number][0]
                    made[number][0] = (row, cost - 1)
                self.assertFalse(self.shows(plan, menu, placing.table, placing.cost, change))

            def all_less(numberings, pairs, made, sent):
                for lists in (made, sent):
                    for number in lists:
                        lists[number] = [(row, cost - 9) for row, cost in lists[number]]
            self.assertFalse(self.shows(plan, menu, placing.table, placing.cost, all_less))

        def root_less(numberings, pairs, made, sent):
            sent[4] = [(row, cost - 1) for row, cost in sent[4]]
        plan, menu, placing = self.found[0]
        self.assertFalse(self.shows(plan, menu, placing.table, placing.cost, root_less))
        self.assertTrue(self.shows(plan, menu, placing.table, placing.cost - 1, root_less))

    def test_a_pair_left_out(self):
        for plan, menu, placing in self.found:
            for at in (2, 3):
                for number in range(1, len(plan) + 1):
                    for index in range(len(copied(placing.table)[at][number])):
                        def change(*parts):
                            del parts[at][number][index]
                        self.assertFalse(self.shows(plan, menu, placing.table, placing.cost, change), (at, number, index))

    def test_whole_lists(self):
        for plan, menu, placing in self.found:
            for number in range(1, len(plan) + 1):
                for at in (2, 3):
                    def empty(*parts):
                        parts[at][number] = []

                    def gone(*parts):
                        del parts[at][number]

                    def turned(*parts):
                        parts[at][number] = parts[at][number][::-1]

                    def twice(*parts):
                        parts[at][number] = parts[at][number] * 2
                    shown = [self.shows(plan, menu, placing.table, placing.cost, change)
                             for change in (empty, gone, turned, twice)]
                    self.assertEqual(shown, [False, False, True, True])

                def exchanged(numberings, pairs, made, sent):
                    made[number], sent[number] = sent[number], made[number]
                alike = sorted_rows(placing.table.made[number]) == sorted_rows(placing.table.sent[number])
                self.assertEqual(self.shows(plan, menu, placing.table, placing.cost, exchanged), alike)

    def test_more_than_200_pairs(self):
        plan, menu, placing = self.found[0]
        for many, wanted in ((200, True), (201, False), (1000, False)):
            for at in (2, 3):
                def change(*parts):
                    rows = parts[at][1]
                    parts[at][1] = (rows * many)[:many]
                self.assertEqual(self.shows(plan, menu, placing.table, placing.cost, change), wanted)

    def test_a_pair_more(self):
        """A row that no placing makes must be covered further up, too."""
        plan, menu, placing = self.found[0]

        def known(numberings, pairs, made, sent):
            made[1].append((sent[1][0][0], 3))

        def free(numberings, pairs, made, sent):
            sent[1].append(((ZERO,), 0))

        def at_the_end(numberings, pairs, made, sent):
            sent[4].append(((ZERO,), 0))
        self.assertTrue(self.shows(plan, menu, placing.table, placing.cost, known))
        self.assertFalse(self.shows(plan, menu, placing.table, placing.cost, free))
        self.assertFalse(self.shows(plan, menu, placing.table, placing.cost, at_the_end))
        self.assertTrue(self.shows(plan, menu, placing.table, 0, at_the_end))

    def test_states_put_for_others(self):
        for plan, menu, placing in self.found:
            for at in (2, 3):
                for number in range(1, len(plan) + 1):
                    for index in range(len(copied(placing.table)[at][number])):
                        for state in (State(), ZERO, State(place_term("a"))):
                            def change(*parts):
                                row, cost = parts[at][number][index]
                                new = tuple(old if old is None else state for old in row)
                                self.same = new == row
                                parts[at][number][index] = (new, cost)
                            shown = self.shows(plan, menu, placing.table, placing.cost, change)
                            self.assertEqual(shown, self.same, (str(plan), at, number, index, str(state)))

    def test_rows_that_are_none(self):
        plan, menu, placing = self.found[2]
        self.assertEqual(plan[3].kind, "union")

        def with_row(row, cost=5):
            def change(numberings, pairs, made, sent):
                sent[1].append((row, cost))
            return change
        good = (State(place_term("a")), None)
        self.assertTrue(self.shows(plan, menu, placing.table, placing.cost, with_row(good)))
        for row in ((), (ZERO,), (None, None), (ZERO, ZERO), (None, ZERO), ("at 0", None), (ZERO, None, None), list(good),
                    None, "row", ZERO, (zero_term(), None), (0, None)):
            self.assertFalse(self.shows(plan, menu, placing.table, placing.cost, with_row(row)), row)
        for cost in (None, "5", True, (5,)):
            self.assertFalse(self.shows(plan, menu, placing.table, placing.cost, with_row(good, cost)))
        for pair in (None, (), [good, 5], (good,), (good, 5, 5), good, "pair", 5):
            def change(numberings, pairs, made, sent):
                made[1].append(pair)
            self.assertFalse(self.shows(plan, menu, placing.table, placing.cost, change), pair)

    def test_a_scan_whose_term_is_nowhere(self):
        plan = Plan(scan(A))
        rows = {1: [((ZERO,), 0)]}
        for numbering in ({"0": 0}, {"0": 0, "a": 1}):
            table = ClosedTable({((), ()): numbering}, {}, rows, rows)
            self.assertFalse(shows_no_fewer(plan, [GATHER], table, 0))
        # A numbering that makes the two places one shows less, but shows it.
        table = ClosedTable({((), ()): {"0": 0, "a": 1, "@a": 0}}, {}, rows, rows)
        self.assertTrue(shows_no_fewer(plan, [GATHER], table, 0))
        self.assertFalse(shows_no_fewer(plan, [GATHER], table, 1))

    def test_alike_by_the_numbering_of_the_level_alone(self):
        """In the anti's right side r[a.k] is r[c.h], by the anti's own pairs."""
        plan, menu, placing = self.found[1]
        there = (State(read("r[c.h]")),)

        def put(number):
            def change(numberings, pairs, made, sent):
                for lists in (made, sent):
                    lists[number][0] = (there, lists[number][0][1])
            return change
        self.assertEqual(str(placing.table.made[2][0][0][0]), "at r[a.k]")
        self.assertTrue(self.shows(plan, menu, placing.table, 1, put(2)))
        # Not so in that of the other anti.
        self.assertFalse(self.shows(plan, menu, placing.table, 1, put(1)))

    def test_alike_by_facts(self):
        plan, menu, placing = self.found[0]
        self.assertEqual(placing.cost, 2)

        def change(numberings, pairs, made, sent):
            for lists in (made, sent):
                for number in (3, 4):
                    lists[number] = [((State(read("r[b.j]")),) if str(row[0]) == "at r[a.x]" else row, cost)
                                     for row, cost in lists[number]]
        parts = copied(placing.table)
        change(*parts)
        self.assertNotEqual(sorted_rows(parts[2][3]), sorted_rows(placing.table.made[3]))
        self.assertTrue(self.shows(plan, menu, placing.table, 2, change))

    def test_unlike_by_a_pair_alone(self):
        """A coarse numbering of the level does not make alike what a pair tells apart."""
        plan = Plan(scan(A).group_by("x", n="count"))
        menu = [GATHER, SPLIT]
        placing = fewest(plan, menu)
        self.assertEqual(placing.cost, 1)

        def coarse(numberings, pairs, made, sent):
            numbering = numberings[(), ()]
            numbering["@a"] = numbering["r[a.x]"]

        def without_split(numberings, pairs, made, sent):
            coarse(numberings, pairs, made, sent)
            sent[1] = [(row, cost) for row, cost in sent[1] if str(row[0]) != "at r[a.x]"]
        self.assertTrue(self.shows(plan, menu, placing.table, 1, coarse))
        self.assertFalse(self.shows(plan, menu, placing.table, 1, without_split))

    def test_unlike_by_an_anti_alone(self):
        plan = Plan(scan(DEALT_A).anti_with(scan(B), [("k", "j")]))
        menu = [GATHER, SPLIT]
        placing = fewest(plan, menu)

        def coarse(numberings, pairs, made, sent):
            numbering = numberings[(), ()]
            numbering["r[a.k]"] = numbering["r[a.x]"]

        def without_split(numberings, pairs, made, sent):
            coarse(numberings, pairs, made, sent)
            sent[1] = [(row, cost) for row, cost in sent[1] if str(row[0]) != "at r[a.x]"]
        self.assertFalse(self.shows(plan, menu, placing.table, placing.cost, without_split))

    def test_terms_that_only_other_steps_ask_for(self):
        """A pair need not have the terms of steps above its collapse, nor a level those of a right side."""
        plan = Plan(scan(A).group_by("x", n="count").join_with(scan(B), [("x", "j")]))
        placing = fewest(plan, [GATHER])
        self.assertIn("@b", placing.table.pairs[2, (), ()])

        def from_pair(numberings, pairs, made, sent):
            for text in ("@b", "@b'"):
                del pairs[2, (), ()][text]

        def from_level(numberings, pairs, made, sent):
            del numberings[(), ()]["@b"]
        self.assertTrue(self.shows(plan, [GATHER], placing.table, placing.cost, from_pair))
        self.assertFalse(self.shows(plan, [GATHER], placing.table, placing.cost, from_level))
        right = Plan(scan(C.with_lie(("zero",))).anti_with(scan(A), [("h", "k")]))
        placing = fewest(right, [GATHER])
        self.assertTrue(self.shows(right, [GATHER], placing.table, 1, lambda numberings, *rest: numberings[(), ()].pop("@a")))
        self.assertFalse(self.shows(right, [GATHER], placing.table, 1, lambda numberings, *rest: numberings[(), (3,)].pop("@a")))

    def test_wants(self):
        plan, menu, placing = self.found[1]
        waiting = State(None, [(3, read("r[a.k]"))])
        self.assertIn(((waiting,), 0), placing.table.made[3])

        def put(number, state):
            def change(numberings, pairs, made, sent):
                sent[number].append(((state,), 9))
            return change
        self.assertTrue(self.shows(plan, menu, placing.table, 1, put(3, waiting)))
        # In a right side, of an anti that is none, and with a term that no numbering has.
        self.assertFalse(self.shows(plan, menu, placing.table, 1, put(2, waiting)))
        for anti in (1, 4, 9, 0):
            self.assertFalse(self.shows(plan, menu, placing.table, 1, put(3, State(None, [(anti, read("r[a.k]"))]))))
        self.assertFalse(self.shows(plan, menu, placing.table, 1, put(3, State(None, [(3, read("q[a.k]"))]))))


class Numberings(unittest.TestCase):
    def setUp(self):
        self.found = [(plan, menu, fewest(plan, menu)) for plan, menu in PLANS]

    def all_numberings(self, placing):
        for at in (0, 1):
            for key in copied(placing.table)[at]:
                yield at, key

    def shows(self, plan, menu, placing, at, key, change):
        def on_parts(*parts):
            change(parts[at][key])
        return shows_no_fewer(plan, menu, changed(placing.table, on_parts), placing.cost)

    def test_other_integers_throughout(self):
        for plan, menu, placing in self.found:
            for at, key in self.all_numberings(placing):
                def change(numbering):
                    for text in list(numbering):
                        numbering[text] = 7 - 3 * numbering[text]
                self.assertTrue(self.shows(plan, menu, placing, at, key, change))

    def test_a_term_more(self):
        for plan, menu, placing in self.found:
            for at, key in self.all_numberings(placing):
                self.assertTrue(self.shows(plan, menu, placing, at, key, lambda numbering: numbering.update({"@e": -5, "e": 99})))
                self.assertFalse(self.shows(plan, menu, placing, at, key, lambda numbering: numbering.update({"@e": -5})))
                self.assertFalse(self.shows(plan, menu, placing, at, key, lambda numbering: numbering.update({"E": 99})))
                self.assertFalse(self.shows(plan, menu, placing, at, key, lambda numbering: numbering.update({3: 99})))

    def test_no_numbers(self):
        for plan, menu, placing in self.found:
            for at, key in self.all_numberings(placing):
                for number in (None, True, "0", (0,)):
                    self.assertFalse(self.shows(plan, menu, placing, at, key,
                                                lambda numbering: numbering.update({"0": number})))

    def test_zero_or_a_splits_term_left_out(self):
        texts = {0: ["0", "r[a.x]", "r[b.j]", "r[a.k]", "@b"], 1: ["0", "r[c.h]", "r[a.k]", "r[b.j]"], 2: ["0"]}
        for which, (plan, menu, placing) in enumerate(self.found):
            for at, key in self.all_numberings(placing):
                for text in texts[which]:
                    marked = text.replace(".", "'.").replace("@b", "@b'")
                    gone = [text, marked] if which == 0 and at == 1 else [text]
                    for one in gone:
                        self.assertFalse(self.shows(plan, menu, placing, at, key, lambda numbering: numbering.pop(one)), (key, one))

    def test_pairs_of_a_union(self):
        plan, menu, placing = self.found[2]
        terms = {"left": ("r[a.k]", "@a"), "right": ("r[c.h]", "0")}
        for key in placing.table.pairs:
            _, (first,), (other,) = key
            for text in terms[first] + tuple(term.replace(".", "'.").replace("@a", "@a'") for term in terms[other]):
                self.assertFalse(self.shows(plan, menu, placing, 1, key, lambda numbering: numbering.pop(text)), (key, text))

    def test_a_numbering_left_out(self):
        for plan, menu, placing in self.found:
            for at, key in self.all_numberings(placing):
                def gone(*parts):
                    del parts[at][key]
                self.assertFalse(shows_no_fewer(plan, menu, changed(placing.table, gone), placing.cost))

                def more(*parts):
                    parts[at]["x"] = {}
                self.assertTrue(shows_no_fewer(plan, menu, changed(placing.table, more), placing.cost))

    def test_one_put_for_another(self):
        plan, menu, placing = self.found[1]
        for one in placing.table.numberings:
            for other in placing.table.numberings:
                def put(numberings, pairs, made, sent):
                    numberings[one] = dict(numberings[other])
                shown = shows_no_fewer(plan, menu, changed(placing.table, put), placing.cost)
                # A numbering that keeps the facts of level (A,) keeps those of level (), too.
                if one == other or one != ((), ()):
                    self.assertEqual(shown, one == other, (one, other))

    def test_equal_terms_told_apart(self):
        """A numbering that does not keep the facts shows nothing."""
        plan, menu, placing = self.found[0]
        for text in ("a.x", "b.j", "r[a.x]", "r[b.j]"):
            self.assertFalse(self.shows(plan, menu, placing, 0, ((), ()), lambda numbering: numbering.update({text: 77})))

    def test_unlike_terms_made_one(self):
        """Then more rows meet, and the lists cover too little; or the table bounds less."""
        plan, menu, placing = self.found[0]
        first = ((), ())
        self.assertFalse(self.shows(plan, menu, placing, 0, first, lambda numbering: numbering.update({"@b": numbering["0"]})))
        self.assertFalse(self.shows(plan, menu, placing, 0, first, lambda numbering: numbering.update({"r[a.k]": numbering["0"]})))

    def test_of_another_plan_or_menu(self):
        for plan, menu, placing in self.found:
            for other, another, _ in self.found:
                if other is not plan:
                    self.assertFalse(shows_no_fewer(other, another, placing.table, 0))
            self.assertFalse(shows_no_fewer(plan, menu + [("split", "q", (plan.root.columns[0],))], placing.table, 0))
            self.assertTrue(shows_no_fewer(plan, menu[::-1], placing.table, placing.cost))
            self.assertTrue(shows_no_fewer(plan, menu[:1], placing.table, placing.cost))

    def test_keys_of_tables_count_in_pairs(self):
        root = scan(A).group_by("x", n="count") + scan(B)
        keyed = scan(A.with_key("x")).group_by("x", n="count") + scan(B)
        table = fewest(Plan(root), [GATHER]).table
        self.assertTrue(shows_no_fewer(Plan(root), [GATHER], table, 2))
        self.assertFalse(shows_no_fewer(Plan(keyed), [GATHER], table, 2))
        self.assertTrue(shows_no_fewer(Plan(keyed), [GATHER], fewest(Plan(keyed), [GATHER]).table, 1))

    def test_plans_and_menus_that_cannot_be(self):
        plan, menu, placing = self.found[0]
        for wrong in ([], [None], menu + menu[:1]):
            self.assertFalse(shows_no_fewer(plan, wrong, placing.table, 0))
        self.assertFalse(shows_no_fewer(Plan(plan.root.gather()), menu, placing.table, 0))


class Drawn(unittest.TestCase):
    def test_whatever_table_is_let_by(self):
        """No table shows more than what is so."""
        let_by = refused = 0
        for seed in range(120):
            dice = Dice(seed)
            plan = drawn_small_plan(dice, 5)
            menu = drawn_menu(dice, plan)
            placing = fewest(plan, menu)
            self.assertTrue(shows_no_fewer(plan, menu, placing.table, placing.cost))
            for _ in range(8):
                table = changed(placing.table, lambda *parts: drawn_change(dice, parts))
                for cost in (None, 0, 1, 2, 3):
                    if shows_no_fewer(plan, menu, table, cost):
                        self.assertTrue(placing.cost is None or (cost is not None and placing.cost >= cost), seed)
                        let_by += 1
                    else:
                        refused += 1
        self.assertGreater(let_by, 300)
        self.assertGreater(refused, 2000)


def drawn_change(dice, parts):
    """Changes one thing in the parts of a table."""
    if dice.below(2):
        numbering = dice.one_of([each for part in parts[:2] for each in part.values() if each] or [{"0": 0}])
        text = dice.one_of(sorted(numbering))
        new = dice.one_of([999, 0, 1, numbering[dice.one_of(sorted(numbering))]])
        old = numbering[text]
        for each in numbering:
            if each == text or (numbering[each] == old and dice.below(2)):
                numbering[each] = new
        return
    lists = parts[2 + dice.below(2)]
    number = dice.one_of(sorted(lists))
    rows = lists[number]
    states = [state for part in parts[2:] for each in part.values() for row, _ in each for state in row if state]
    if rows:
        at = dice.below(len(rows))
        row, cost = rows[at]
        place = dice.below(len(row))
        other = row[:place] + (dice.one_of(states + [State(), ZERO]),) + row[place + 1:]
        new = dice.one_of([[], [(row, cost + 1)], [(row, cost - 1)], [(other, cost)], [(row, cost), (other, cost)]])
        lists[number] = rows[:at] + new + rows[at + 1:]
