"""Worlds in which what may go wrong goes wrong: for a failure, or for a breach of a claim."""

from splitplans.machine import First, Machine
from splitplans.needs import collapsed
from splitplans.numbering import anti_over
from splitplans.places import states
from splitplans.plain import plain_rows
from splitplans.scenes import Scene
from splitplans.stories import Story, pair_facts
from splitplans.streams import places_of, values_at


def world_of_failure(plan, failure):
    """A world in which every run ends otherwise, for the first failure of the plan."""
    if failure.kind == "apart":
        return _world_of_apart(plan, failure)
    story = Story(plan, failure.choice)
    level = () if failure.anti == 0 else (failure.anti,)
    # At an exchange there is no term that must differ from the want's.
    apart = None if failure.left is None else (failure.left, failure.right)
    scene = Scene(plan, story.facts_at(level), {}, [], apart)
    scene.enter(story, [number for number in story.met if story.level_of(number) in ((), level)], False)
    return _world_of(plan, scene, None)


def world_of_breach(plan, claim, breach):
    """A world for a claim that does not hold, and the worker that has the first story's row."""
    first = Story(plan, claim[0])
    second = Story(plan, claim[1])
    scene = Scene(plan, breach.alike, first.table_keys(), breach.rising, breach.apart)
    scene.enter(first, _outer(first, first.met), False)
    scene.enter(second, _outer(second, second.met), True)
    world = _world_of(plan, scene, None)
    return (world, 0 if breach.apart is None else scene.worker_of(breach.apart[0]))


def _world_of_apart(plan, failure):
    first = Story(plan, failure.choice)
    second = Story(plan, failure.other)
    source, _ = collapsed(plan, failure.number)
    inside = [number for number in plan.below(source) + [source] if number in second.met]
    facts = pair_facts(plan, failure.choice, failure.number, failure.other)
    scene = Scene(plan, facts, first.table_keys(), [], (failure.left, failure.right.second()))
    scene.enter(first, _outer(first, first.met), False)
    scene.enter(second, _outer(second, inside), True)
    return _world_of(plan, scene, failure)


def _outer(story, numbers):
    """Those of the steps that stand in no right side of an anti."""
    return [number for number in numbers if story.level_of(number) == ()]


def _world_of(plan, scene, split):
    """The scene's world with tests that let its rows pass; split is the failure that parts rows, or None."""
    scene.settle()
    tests = {}
    for number in range(1, len(plan) + 1):
        step = plan[number]
        if step.kind in ("compute", "where"):
            # Outside of right sides, what counts are the rows for which no anti finds a mate.
            world = scene.world_with(tests, anti_over(plan, number) != 0)
            rows = plain_rows(plan, world, plan.inputs_of(number)[0])
            if split is not None and step.kind == "where" and split.number in plan.below(number):
                rows = _rows_that_tell(plan, world, scene, split, number, rows)
            if step.kind == "where":
                tests[step.name] = _named_values(step, rows)
            else:
                scene.give(step.name, _named_values(step, rows))
    return scene.world_with(tests, True)


def _named_values(step, rows):
    """The unlike values, in the columns that a step names, of some rows of its input."""
    places = places_of(step.inputs[0], step.named)
    return sorted(set([values_at(row, places) for row in rows]))


def _rows_that_tell(plan, world, scene, split, number, rows):
    """What a where above parted rows is to pass, so that it is seen at the end that they are parted.

    Where it tests no measure, all rows pass. Otherwise one row alone, of which the workers make
    more than there plainly are. For if several passed, rows that are too many could stand for
    others whose measures are too small to pass.
    """
    source = plan.inputs_of(number)[0]
    made = _rows_made(plan, world, split, source)
    step = plan[source]
    if not any([column in step.measures for column in plan[number].named]):
        return rows + made
    columns = [column for column in step.columns if column not in step.measures]
    places = places_of(step, columns)
    terms = Story(plan, split.choice).terms_of(source, columns)
    told = scene.values_of(terms)
    return [row for row in made if values_at(row, places) == told and made.count(row) > rows.count(row)][:1]


def _rows_made(plan, world, split, number):
    """The rows that the workers make of a step, each once if they lie everywhere."""
    machine = Machine(plan, world)
    machine.play(First())
    everywhere = states(plan)[number, split.choice].term is None
    workers = [0] if everywhere else list(range(world.workers))
    return [row for worker in workers for row in machine.rows_at(number, worker)]
