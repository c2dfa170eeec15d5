"""The machine: point 20, exchanges of point 12, and the choosers."""

import unittest

from splitplans.machine import Drawn, First, Last, Machine, played
from splitplans.plain import plain, plain_rows
from splitplans.plans import Plan, scan
from splitplans.tables import Table
from splitplans.worlds import World

from helpers import Dice, fault
from planmaker import drawn_plan, drawn_world

T = Table("t", ["k", "c"])
S = Table("s", ["y", "z"], lies=("copied",))
SELF = {"r": lambda *values: sum(values)}


def machine(root, rows=None, places=None, workers=2, mates=(), **more):
    """A machine; t has these rows at these workers, s these mates at each worker."""
    anyhow = {} if places is None else {"t": places}
    found = World([T, S], {"t": rows or [], "s": list(mates)}, workers=workers, rules=SELF, anyhow=anyhow, **more)
    return Machine(Plan(root), found)


def moves_of(runner):
    return list(runner.open_moves())


class Example(unittest.TestCase):
    def setUp(self):
        self.plan = Plan(scan(T).group_by("k", n="count").split_by("r", "k").group_by("k", m=("sum", "n")).gather())
        self.world = World([T], {"t": [(1, 5), (1, 7), (2, 9)]}, workers=2, rules={"r": {(1,): 1}},
                           anyhow={"t": [0, 1, 1]})

    def test_open_moves(self):
        self.assertEqual(moves_of(Machine(self.plan, self.world)), [(3, 0, 1), (3, 1, 0), (3, 1, 1)])

    def test_what_is_sent(self):
        found = Machine(self.plan, self.world)
        self.assertEqual((found.rows_at(2, 0), found.rows_at(2, 1)), ([(1, 1)], [(1, 1), (2, 1)]))
        self.assertEqual(found.look_ahead([(3, 1, 0), (3, 1, 1), (3, 0, 1)]), [(1, 1), (1, 1), (2, 1)])

    def test_all_runs(self):
        answers = set()
        for numbers in range(81):
            found = Machine(self.plan, self.world)
            made = found.play(Drawn([numbers % 3, numbers // 3 % 3, numbers // 9 % 3, numbers // 27]))
            self.assertEqual(len(made), 5)
            answers.add(tuple(found.answer()))
        self.assertEqual(answers, {((1, 2), (2, 1)), ((2, 1), (1, 2))})

    def test_the_order_in_which_the_gather_brings_them(self):
        found = Machine(self.plan, self.world)
        self.assertEqual(found.play(First()), [(3, 0, 1), (3, 1, 0), (3, 1, 1), (5, 0, 0), (5, 0, 1)])
        self.assertEqual(found.answer(), [(2, 1), (1, 2)])
        self.assertEqual(found.moved, [(3, 0, 1), (3, 1, 0), (3, 1, 1), (5, 0, 0), (5, 0, 1)])
        found = Machine(self.plan, self.world)
        found.play(Last())
        self.assertEqual(found.answer(), [(1, 2), (2, 1)])

    def test_other_workers_have_nothing(self):
        found = Machine(self.plan, self.world)
        found.play(First())
        self.assertEqual([found.rows_at(5, at) for at in (0, 1)], [[(2, 1), (1, 2)], []])
        self.assertEqual([found.rows_at(4, at) for at in (0, 1)], [[(2, 1)], [(1, 2)]])


class WithoutExchanges(unittest.TestCase):
    def test_ended_at_once(self):
        found = machine(scan(T).where("p", "k").keep("c"), [(1, 5), (2, 6), (1, 7)], [0, 0, 1], tests={"p": [(1,)]})
        self.assertIs(found.ended, True)
        self.assertEqual((moves_of(found), found.moved, found.answer()), ([], [], [(5,)]))
        self.assertEqual([found.rows_at(3, at) for at in (0, 1)], [[(5,)], [(7,)]])
        self.assertEqual(found.play(First()), [])

    def test_own(self):
        rows = [(at, 10 * at) for at in range(5)]
        found = machine(scan(S).own_by("r", "y"), mates=rows, workers=3)
        self.assertEqual([found.rows_at(2, at) for at in range(3)],
                         [[rows[0], rows[3]], [rows[1], rows[4]], [rows[2]]])
        self.assertEqual(found.answer(), [rows[0], rows[3]])

    def test_each_worker_by_itself(self):
        root = scan(T).join_with(scan(S), [("k", "y")]).group_by("k", n="count")
        found = machine(root, [(1, 1), (2, 2), (1, 3)], [0, 1, 1], mates=[(1, 0), (1, 1), (2, 0)])
        self.assertEqual([found.rows_at(4, at) for at in (0, 1)], [[(1, 2)], [(1, 2), (2, 1)]])

    def test_copied_rows_are_at_each_worker(self):
        found = machine(scan(S), mates=[(1, 2)], workers=16)
        self.assertEqual([found.rows_at(1, at) for at in range(16)], [[(1, 2)]] * 16)


class Exchanges(unittest.TestCase):
    rows = [(0, 1), (1, 2), (2, 3), (3, 4), (0, 5)]
    places = [0, 0, 1, 1, 1]

    def test_split(self):
        found = machine(scan(T).split_by("r", "k"), self.rows, self.places)
        self.assertEqual(moves_of(found), [(2, 0, 0), (2, 0, 1), (2, 1, 0), (2, 1, 1)])
        self.assertEqual([found.rows_at(2, 0), found.rows_at(2, 1)], [None, None])
        self.assertEqual(found.move(2, 0, 1), (2, 3))
        self.assertEqual(found.move(2, 0, 0), (0, 1))
        self.assertIsNone(found.rows_at(2, 0))
        self.assertEqual(moves_of(found), [(2, 0, 1), (2, 1, 0), (2, 1, 1)])
        self.assertEqual(found.move(2, 0, 1), (0, 5))
        self.assertEqual((found.rows_at(2, 0), found.rows_at(2, 1)), ([(2, 3), (0, 1), (0, 5)], None))
        found.play(Last())
        self.assertEqual(found.rows_at(2, 1), [(3, 4), (1, 2)])
        self.assertEqual(found.answer(), [(2, 3), (0, 1), (0, 5)])

    def test_split_by_several_columns_and_workers(self):
        found = machine(scan(T).split_by("r", "k", "c"), self.rows, self.places, workers=5)
        self.assertEqual(moves_of(found), [(2, 0, 1), (2, 1, 0), (2, 2, 1), (2, 3, 0)])
        self.assertEqual(found.rows_at(2, 4), [])
        found.play(First())
        self.assertEqual([found.rows_at(2, at) for at in range(5)],
                         [[(2, 3), (0, 5)], [(0, 1)], [(3, 4)], [(1, 2)], []])

    def test_broadcast(self):
        found = machine(scan(T).broadcast(), self.rows[:3], self.places[:3], workers=3)
        self.assertEqual(moves_of(found), [(2, 0, 0), (2, 0, 1), (2, 1, 0), (2, 1, 1), (2, 2, 0), (2, 2, 1)])
        self.assertEqual(len(found.play(Last())), 9)
        self.assertEqual([found.rows_at(2, at) for at in range(3)], [[(2, 3), (0, 1), (1, 2)]] * 3)

    def test_gather(self):
        found = machine(scan(T).gather(), self.rows, self.places, workers=3)
        self.assertEqual(moves_of(found), [(2, 0, 0), (2, 0, 1)])
        self.assertEqual([found.rows_at(2, at) for at in range(3)], [None, [], []])
        self.assertEqual([found.move(2, 0, at) for at in (1, 0, 1, 0, 1)],
                         [(2, 3), (0, 1), (3, 4), (1, 2), (0, 5)])
        self.assertEqual(found.rows_at(2, 0), [(2, 3), (0, 1), (3, 4), (1, 2), (0, 5)])

    def test_merge(self):
        rows = [(5, 0), (1, 1), (3, 2), (1, 3), (3, 4), (9, 5)]
        found = machine(scan(T).sort_by("k").merge_by("k"), rows, [0, 0, 1, 1, 2, 2], workers=3)
        brought = []
        while not found.ended:
            self.assertEqual(len(moves_of(found)), 1)
            brought.append((moves_of(found)[0][2], found.move(*moves_of(found)[0])))
        self.assertEqual(brought, [(0, (1, 1)), (1, (1, 3)), (1, (3, 2)), (2, (3, 4)), (0, (5, 0)), (2, (9, 5))])
        self.assertEqual([found.rows_at(3, at) for at in (1, 2)], [[], []])

    def test_merge_by_less_than_the_sort(self):
        rows = [(1, 9), (1, 1), (2, 0), (1, 5), (1, 2)]
        found = machine(scan(T).sort_by("k", "c").merge_by("k"), rows, [1, 1, 1, 0, 0])
        found.play(First())
        self.assertEqual(found.answer(), [(1, 2), (1, 5), (1, 1), (1, 9), (2, 0)])

    def test_merge_looks_at_its_columns_alone(self):
        rows = [(-1, 2), (-1, 0), (0, -7)]
        found = machine(scan(T).sort_by("k", "c").merge_by("k", "c"), rows, [1, 1, 0])
        self.assertEqual(len(found.play(Last())), 3)
        self.assertEqual(found.answer(), [(-1, 0), (-1, 2), (0, -7)])

    def test_a_merge_waits_until_its_input_is_made_everywhere(self):
        rows = [(0, 4), (1, 3), (0, 2), (1, 1)]
        found = machine(scan(T).split_by("r", "k").sort_by("c").merge_by("c"), rows, [0, 0, 1, 1])
        for move in ((2, 0, 0), (2, 0, 1)):
            found.move(*move)
        self.assertEqual((found.rows_at(3, 0), found.rows_at(3, 1)), ([(0, 2), (0, 4)], None))
        self.assertEqual(moves_of(found), [(2, 1, 0), (2, 1, 1)])
        self.assertEqual([found.rows_at(4, at) for at in (0, 1)], [None, None])
        self.assertEqual(fault(found.move, 4, 0, 0), ("NoMove", 4, 0, 0))
        found.move(2, 1, 0)
        found.move(2, 1, 1)
        self.assertEqual(moves_of(found), [(4, 0, 1)])
        self.assertEqual(fault(found.move, 4, 0, 0), ("NoMove", 4, 0, 0))
        self.assertEqual([found.rows_at(4, at) for at in (0, 1)], [None, []])
        found.play(First())
        self.assertEqual(found.answer(), [(1, 1), (0, 2), (1, 3), (0, 4)])

    def test_an_exchange_sends_as_soon_as_its_input_is_made(self):
        found = machine(scan(T).split_by("r", "k").gather(), [(0, 0), (1, 1), (1, 2)], [0, 0, 1])
        self.assertEqual(moves_of(found), [(2, 0, 0), (2, 1, 0), (2, 1, 1)])
        found.move(2, 0, 0)
        self.assertEqual(moves_of(found), [(2, 1, 0), (2, 1, 1), (3, 0, 0)])
        found.move(3, 0, 0)
        self.assertEqual((found.rows_at(3, 0), found.rows_at(3, 1), found.ended), (None, None, False))
        found.move(2, 1, 0)
        found.move(2, 1, 1)
        self.assertEqual((found.rows_at(3, 0), found.rows_at(3, 1)), (None, []))
        self.assertEqual(moves_of(found), [(3, 0, 1)])

    def test_nothing_to_bring(self):
        for over in (scan(T).gather(), scan(T).split_by("r", "k"), scan(T).broadcast(), scan(T).sort_by("k").merge_by("k")):
            found = machine(over, workers=3)
            self.assertTrue(found.ended)
            self.assertEqual([found.rows_at(len(Plan(over)), at) for at in range(3)], [[], [], []])
            self.assertEqual(found.answer(), [])

    def test_beside_others(self):
        root = scan(T).split_by("r", "k").join_with(scan(S).gather(), [("k", "y")])
        found = machine(root, [(0, 7), (1, 8)], [0, 1], mates=[(0, 3)])
        self.assertEqual(moves_of(found), [(2, 0, 0), (2, 1, 1), (4, 0, 0), (4, 0, 1)])
        self.assertEqual((found.rows_at(4, 1), found.rows_at(5, 1)), ([], None))
        found.move(2, 1, 1)
        self.assertEqual((found.rows_at(5, 0), found.rows_at(5, 1)), (None, []))
        found.move(2, 0, 0)
        self.assertIsNone(found.rows_at(5, 0))
        found.move(4, 0, 1)
        found.move(4, 0, 0)
        self.assertEqual((found.rows_at(5, 0), found.answer()), ([(0, 7, 0, 3)] * 2, [(0, 7, 0, 3)] * 2))

    def test_one_and_sixteen_workers(self):
        rows = [(at % 7, at) for at in range(40)]
        for workers in (1, 2, 3, 4, 5, 16):
            found = machine(scan(T).split_by("r", "c").group_by("k", n="count").gather().group_by("k", m=("sum", "n")),
                            rows, [at % workers for at in range(40)], workers=workers)
            found.play(Drawn([5, 3, 8, 1]))
            self.assertEqual(found.answer(), [(at, len(range(at, 40, 7))) for at in range(7)])


class Moves(unittest.TestCase):
    def setUp(self):
        self.found = machine(scan(T).split_by("r", "k").gather(), [(0, 0), (1, 1), (0, 2)], [0, 0, 1])

    def state(self):
        return (self.found.moved, moves_of(self.found), self.found.ended,
                [self.found.rows_at(number, at) for number in (1, 2, 3) for at in (0, 1)])

    def test_moves_that_are_not_open(self):
        self.found.move(2, 0, 1)
        before = self.state()
        wrong = [(2, 0, 1), (2, 1, 1), (2, 2, 0), (2, 0, 2), (2, -1, 0), (2, 0, -1), (3, 0, 0), (3, 1, 0), (1, 0, 0),
                 (0, 0, 0), (-2, 0, 0), (4, 0, 0), (10 ** 30, 10 ** 30, -10 ** 30)]
        for move in wrong:
            self.assertEqual(fault(self.found.move, *move), ("NoMove", *move))
            self.assertEqual(self.state(), before)

    def test_answer_before_the_end(self):
        while not self.found.ended:
            self.assertEqual(fault(self.found.answer), ("NotEnded",))
            self.found.move(*moves_of(self.found)[0])
        self.assertEqual(self.found.answer(), [(0, 0), (0, 2), (1, 1)])
        self.assertEqual(self.found.answer(), [(0, 0), (0, 2), (1, 1)])

    def test_moved(self):
        self.assertEqual(self.found.moved, [])
        self.found.move(2, 1, 0)
        self.found.move(2, 0, 0)
        self.assertEqual(self.found.moved, [(2, 1, 0), (2, 0, 0)])
        self.assertEqual(self.found.play(First()), self.found.moved[2:])

    def test_look_ahead(self):
        before = self.state()
        self.assertEqual(self.found.look_ahead([]), [])
        self.assertEqual(self.found.look_ahead([(2, 0, 1), (2, 1, 0)]), [(0, 2), (1, 1)])
        self.assertEqual(self.state(), before)
        whole = [(2, 0, 1), (2, 0, 0), (3, 0, 0), (2, 1, 0), (3, 0, 1), (3, 0, 0)]
        self.assertEqual(self.found.look_ahead(whole), [(0, 2), (0, 0), (0, 2), (1, 1), (1, 1), (0, 0)])
        self.assertEqual(self.state(), before)
        self.assertEqual(fault(self.found.look_ahead, whole + [(3, 0, 0)]), ("NoMove", 3, 0, 0))
        self.assertEqual(fault(self.found.look_ahead, [(2, 0, 1), (2, 0, 1), (2, 0, 0)]), ("NoMove", 2, 0, 1))
        self.assertEqual(self.state(), before)
        self.assertEqual([self.found.move(*move) for move in whole], self.found_again().look_ahead(whole))
        self.assertEqual(self.found.look_ahead([]), [])

    def found_again(self):
        return machine(scan(T).split_by("r", "k").gather(), [(0, 0), (1, 1), (0, 2)], [0, 0, 1])

    def test_look_ahead_in_the_middle(self):
        self.found.move(2, 0, 0)
        before = self.state()
        self.assertEqual(self.found.look_ahead([(2, 0, 1), (3, 0, 0)]), [(0, 2), (0, 0)])
        self.assertEqual(self.state(), before)

    def test_what_was_passed_or_returned_may_be_changed(self):
        moves = [(2, 0, 1), (2, 0, 0)]
        self.found.look_ahead(moves).clear()
        self.assertEqual(moves, [(2, 0, 1), (2, 0, 0)])
        for move in moves:
            self.found.move(*move)
        before = self.state()
        self.found.moved.clear()
        moves_of(self.found).clear()
        for number in (1, 2):
            self.found.rows_at(number, 0).append((7, 7))
        self.assertEqual(self.state(), before)
        self.found.play(First()).clear()
        self.found.answer().clear()
        self.assertEqual((len(self.found.moved), len(self.found.answer())), (6, 3))

    def test_rows_that_are_sent_on_are_not_those_returned(self):
        self.found.move(2, 0, 0)
        self.found.move(2, 0, 1)
        self.found.rows_at(2, 0).clear()
        self.assertEqual(self.found.move(3, 0, 0), (0, 0))
        self.assertEqual(self.found.rows_at(2, 0), [(0, 0), (0, 2)])

    def test_changes_of_the_world(self):
        world = World([T], {"t": [(0, 0), (1, 1), (2, 2)]}, workers=3, rules=SELF)
        plan = Plan(scan(T).split_by("r", "k").own_by("r", "k").gather())
        found = Machine(plan, world)
        world.workers = 1
        found.play(First())
        self.assertEqual(found.moved, [(2, 0, 0), (2, 1, 0), (2, 2, 0), (4, 0, 0), (4, 0, 1), (4, 0, 2)])
        self.assertEqual(found.answer(), [(0, 0), (1, 1), (2, 2)])
        found.rows_at(1, 0).clear()
        self.assertEqual((world.workers, world.rows_of("t")), (1, [(0, 0), (1, 1), (2, 2)]))

    def test_tables_of_the_world(self):
        plan = Plan(scan(T).semi_with(scan(S), [("k", "y")]))
        for tables in ([T], [T, S.with_lie(("zero",))], [T.with_key("k"), S], [Table("t", ["c", "k"]), S]):
            world = World(tables, {}, workers=1)
            self.assertEqual(fault(Machine, plan, world), ("InvalidWorld", "tables"))
            self.assertEqual(fault(played, plan, world, []), ("InvalidWorld", "tables"))
        self.assertTrue(Machine(plan, World([Table("u", ["k"]), S, T], {}, workers=1)).ended)

    def test_played(self):
        plan = Plan(scan(T).gather())
        world = World([T], {"t": [(1, 1), (2, 2)]}, workers=2, anyhow={"t": [0, 1]})
        self.assertEqual(played(plan, world, [(2, 0, 1), (2, 0, 0)]), [(2, 2), (1, 1)])
        self.assertEqual(fault(played, plan, world, [(2, 0, 1)]), ("NotEnded",))
        self.assertEqual(fault(played, plan, world, []), ("NotEnded",))
        self.assertEqual(fault(played, plan, world, [(2, 0, 1), (2, 0, 1)]), ("NoMove", 2, 0, 1))
        self.assertEqual(fault(played, plan, world, [(2, 0, 1), (2, 0, 0), (2, 0, 0)]), ("NoMove", 2, 0, 0))


class Ahead:
    """A chooser that looks ahead: takes the move that brings the greatest row; spoils its list."""

    def __init__(self, found):
        self.found = found

    def __call__(self, moves):
        rows = [(self.found.look_ahead([move])[0], move) for move in moves]
        for move in moves:
            self.found.look_ahead([move] + [other for other in moves if other != move])
        moves.clear()
        return max(rows)[1]


class Choosers(unittest.TestCase):
    def test_first_and_last(self):
        moves = [(2, 0, 0), (2, 0, 1), (3, 1, 1)]
        self.assertEqual((First()(moves), Last()(moves)), ((2, 0, 0), (3, 1, 1)))
        self.assertEqual((First()(moves[1:2]), Last()(moves[1:2])), ((2, 0, 1), (2, 0, 1)))
        self.assertEqual(moves, [(2, 0, 0), (2, 0, 1), (3, 1, 1)])

    def test_drawn(self):
        moves = list("abc")
        chooser = Drawn([0, 4, -1, 10 ** 40, -10 ** 40])
        wanted = "".join("abc"[number % 3] for number in [0, 4, -1, 10 ** 40, -10 ** 40])
        self.assertEqual("".join(chooser(moves) for _ in range(12)), (wanted * 3)[:12])

    def test_drawn_from_changing_lists(self):
        chooser = Drawn([5, -2])
        self.assertEqual([chooser(list("abcdefgh"[:many])) for many in (1, 2, 3, 4, 5, 6, 7, 8)], list("aaccaefg"))

    def test_numbers_are_copied(self):
        numbers = [1, 2]
        chooser = Drawn(numbers)
        numbers[0] = 0
        numbers.append(0)
        self.assertEqual([chooser(list("abc")) for _ in range(4)], list("bcbc"))
        self.assertEqual(numbers, [0, 2, 0])

    def test_a_chooser_that_looks_ahead(self):
        root = scan(T).split_by("r", "k").gather()
        rows, places = [(0, 0), (1, 1), (0, 2), (1, 3)], [0, 0, 1, 1]
        found = machine(root, rows, places)
        made = found.play(Ahead(found))
        self.assertEqual(found.moved, made)
        again = machine(root, rows, places)
        for move in made:
            again.move(*move)
        self.assertEqual((again.answer(), again.ended), (found.answer(), True))
        self.assertEqual(made[:3], [(2, 1, 1), (2, 1, 0), (3, 0, 1)])

    def test_a_move_that_is_not_open(self):
        found = machine(scan(T).gather(), [(0, 0), (1, 1)], [0, 1])
        moves = [(2, 0, 1), (2, 0, 1)]
        self.assertEqual(fault(found.play, lambda _: moves.pop()), ("NoMove", 2, 0, 1))
        self.assertEqual((found.moved, moves_of(found)), ([(2, 0, 1)], [(2, 0, 0)]))
        self.assertEqual(found.play(First()), [(2, 0, 0)])

    def test_the_list_is_the_choosers_own(self):
        lists = []

        def keeping(moves):
            lists.append(moves)
            chosen = moves[0]
            moves.reverse()
            moves.append((9, 9, 9))
            return chosen
        found = machine(scan(T).gather(), [(0, 0), (1, 1), (2, 2)], [0, 1, 1])
        self.assertEqual(found.play(keeping), [(2, 0, 0), (2, 0, 1), (2, 0, 1)])
        self.assertIsInstance(lists[0], list)
        self.assertEqual(lists[0], [(2, 0, 1), (2, 0, 0), (9, 9, 9)])


class Many(unittest.TestCase):
    def test_more_than_a_thousand_rows(self):
        rows = [(at * 7919 % 1201, at) for at in range(1300)]
        root = scan(T).split_by("r", "k").sort_by("k", "c").merge_by("k", "c")
        found = machine(root, rows, [at % 4 for at in range(1300)], workers=4)
        self.assertEqual(len(found.play(Drawn([3, 1, 4, 1, 5, 9, 2, 6]))), 2600)
        self.assertEqual(found.answer(), sorted(rows))
        joined = scan(T).join_with(scan(S).broadcast().own_by("r", "y"), [("k", "y")]).gather()
        found = machine(joined, rows, [row[0] % 2 for row in rows], mates=[(at, 0) for at in range(600)])
        found.play(Last())
        self.assertEqual(sorted(found.answer())[0], (0, 0, 0, 0))
        self.assertEqual(len(found.answer()), 2 * len([row for row in rows if row[0] < 600]))

    def test_rows_do_not_depend_on_the_moves(self):
        for seed in range(60):
            dice = Dice(seed)
            plan = drawn_plan(dice, 9)
            world = drawn_world(dice, plan, 1 + dice.below(5), 5, 4)
            wanted = None
            for chooser in (First(), Last(), Drawn([dice.below(50) for _ in range(7)])):
                found = Machine(plan, world)
                made = found.play(chooser)
                self.assertEqual(played(plan, world, made), found.answer())
                bags = [sorted(found.rows_at(number, at)) for number in range(1, len(plan) + 1)
                        for at in range(world.workers)]
                wanted = wanted or bags
                self.assertEqual(bags, wanted)

    def test_one_worker_returns_the_plain_answer(self):
        for seed in range(60):
            dice = Dice(seed)
            plan = drawn_plan(dice, 9)
            world = drawn_world(dice, plan, 1, 5, 4)
            found = Machine(plan, world)
            found.play(First())
            self.assertEqual(found.answer(), plain(plan, world))
            for number in range(1, len(plan) + 1):
                self.assertEqual(found.rows_at(number, 0), plain_rows(plan, world, number))
