"""[17] Skies compared."""

import copy
import functools
import random
import unittest

from snowsure.skies import compared, comparison_holds, is_lead, is_relation
from tests.samples import FAIR, OTHER_THINGS, STORM, clear_sky, small_worlds

CALM = ("calm", (("calm", (("calm", ()),)),))
# Snow at most on every third tick; the fair sky has it on every second one.
RARE = ("dry", (("dry", (("dry", ()), ("wet", ("hill",)))), ("wet", (("rest", ()),)), ("rest", (("dry", ()),))))
# Both choose where it snows on the next tick: the one when it falls, the other one a tick ahead.
LATE = ("x", (("x", (("y", ()),)), ("y", (("x", ("l",)), ("x", ("r",))))))
EARLY = ("x", (("x", (("left", ()), ("right", ()))), ("left", (("x", ("l",)),)), ("right", (("x", ("r",)),))))
# One street after the other till it is on three; and as often as one likes.
CHAIN = ("c0", (("c0", (("c1", ("a",)),)), ("c1", (("c2", ("b",)),)), ("c2", (("c0", ("c",)),))))
ALL = ("o", (("o", (("o", ("c", "b", "a")),)),))


def can_answer(one, other):
    """Whether all that falls of the one can be answered, by a game of so many ticks as there are pairs."""
    arcs, other_arcs = dict(one[1]), dict(other[1])

    @functools.lru_cache(maxsize=None)
    def good(state, other_state, ticks):
        if ticks == 0:
            return True
        return all(
            any(set(streets) <= set(more) and good(behind, there, ticks - 1) for there, more in other_arcs[other_state])
            for behind, streets in arcs[state]
        )

    return good(one[0], other[0], len(arcs) * len(other_arcs) + 1)


def relates(one, other, thing):
    """Whether a dict is a relation, told a second time."""
    arcs, other_arcs = dict(one[1]), dict(other[1])
    if (one[0], other[0]) not in thing:
        return False
    for pair in thing:
        if not isinstance(pair, tuple) or len(pair) != 2 or pair[0] not in arcs or pair[1] not in other_arcs:
            return False
        for behind, streets in arcs[pair[0]]:
            if not any(set(streets) <= set(more) and (behind, there) in thing for there, more in other_arcs[pair[1]]):
                return False
    return True


def leads(one, other, thing):
    """Whether a dict from pairs of states to pairs of integers is a lead, told a second time."""
    arcs, other_arcs = dict(one[1]), dict(other[1])
    if (one[0], other[0]) not in thing:
        return False
    for (state, other_state), (rank, number) in thing.items():
        if rank < 0 or not 0 <= number < len(arcs[state]):
            return False
        behind, streets = arcs[state][number]
        for there, more in other_arcs[other_state]:
            if set(streets) <= set(more) and not ((behind, there) in thing and thing[behind, there][0] < rank):
                return False
    return True


def small_pairs(many):
    """Pairs of small skies over the same streets."""
    rng = random.Random(17)
    pairs = []
    for _ in range(many):
        skies = []
        for name in ("x", "y"):
            states = [f"{name}{k}" for k in range(rng.randint(1, 4))]
            share = rng.choice((0.2, 0.4, 0.7))
            rows = []
            for state in states:
                arcs = []
                for _ in range(rng.randint(1, 3)):
                    fallen = [street for street in "abc" if rng.random() < share]
                    rng.shuffle(fallen)
                    arcs.append((rng.choice(states), tuple(fallen)))
                rows.append((state, tuple(arcs)))
            skies.append((rng.choice(states), tuple(rows)))
        pairs.append(tuple(skies))
    return pairs


class SkyCase(unittest.TestCase):
    def check(self, one, other):
        """What compared tells, held to by the judges, and by the second telling."""
        before = copy.deepcopy((one, other))
        told = compared(one, other)
        self.assertEqual((one, other), before)
        self.assertEqual(told, compared(one, other))
        self.assertIsInstance(told, tuple)
        word, paper = told
        self.assertIsInstance(paper, dict)
        self.assertTrue(comparison_holds(one, other, told))
        if word == "no worse":
            self.assertTrue(is_relation(one, other, paper) and relates(one, other, paper))
            self.assertFalse(is_lead(one, other, {pair: (0, 0) for pair in paper}))
        else:
            self.assertEqual(word, "worse")
            self.assertTrue(is_lead(one, other, paper) and leads(one, other, paper))
            self.assertFalse(is_relation(one, other, paper))
        self.assertEqual((one, other), before)
        return word


class Compared(SkyCase):
    def test_calm_and_storm(self):
        self.assertEqual(self.check(CALM, STORM), "no worse")
        self.assertEqual(self.check(STORM, CALM), "worse")
        self.assertEqual(self.check(FAIR, STORM), "no worse")
        self.assertEqual(self.check(STORM, FAIR), "worse")
        self.assertEqual(self.check(CALM, FAIR), "no worse")
        self.assertEqual(self.check(FAIR, CALM), "worse")

    def test_each_is_no_worse_than_itself(self):
        for sky in (CALM, STORM, FAIR, RARE, LATE, EARLY, CHAIN, ALL, clear_sky(4, 3, 2)):
            self.assertEqual(self.check(sky, sky), "no worse")

    def test_rarer_snow(self):
        self.assertEqual(self.check(RARE, FAIR), "no worse")
        self.assertEqual(self.check(FAIR, RARE), "worse")

    def test_without_knowing_what_comes(self):
        # The same falls of both, but who has to choose a tick ahead can't answer who chooses then.
        self.assertEqual(self.check(EARLY, LATE), "no worse")
        self.assertEqual(self.check(LATE, EARLY), "worse")

    def test_no_less_on_any_street(self):
        self.assertEqual(self.check(CHAIN, ALL), "no worse")
        self.assertEqual(self.check(ALL, CHAIN), "worse")
        two = ("o", (("o", (("o", ("a", "b")), ("o", ("b", "c")))),))
        self.assertEqual(self.check(CHAIN, two), "no worse")
        self.assertEqual(self.check(two, CHAIN), "worse")
        self.assertEqual(self.check(two, ALL), "no worse")
        self.assertEqual(self.check(ALL, two), "worse")

    def test_the_order_of_an_arcs_streets_is_no_matter(self):
        turned = ("o", (("o", (("o", ("a", "c", "b")),)),))
        self.assertEqual(self.check(ALL, turned), "no worse")
        self.assertEqual(self.check(turned, ALL), "no worse")

    def test_states_that_can_not_be_come_to(self):
        one = ("a", (("a", (("a", ()),)), ("lost", (("lost", ("hill",)),))))
        self.assertEqual(self.check(one, CALM), "no worse")
        self.assertEqual(self.check(CALM, one), "no worse")
        self.assertEqual(self.check(STORM, one), "worse")

    def test_other_names_are_no_matter(self):
        one = ("dry", (("dry", (("dry", ()),)), ("wet", (("wet", ("hill",)),))))
        other = ("wet", (("wet", (("wet", ()),)), ("dry", (("dry", ("hill",)),))))
        self.assertEqual((self.check(one, other), self.check(other, one)), ("no worse", "no worse"))

    def test_a_long_lead(self):
        # It comes out only on the tick on which the one snows and the other one doesn't: 7 * 11 - 1 ticks on.
        one = ("o0", tuple((f"o{k}", ((f"o{(k + 1) % 7}", ("a",) if k == 6 else ()),)) for k in range(7)))
        other = ("p0", tuple((f"p{k}", ((f"p{(k + 1) % 11}", () if k == 10 else ("a",)),)) for k in range(11)))
        self.assertEqual(self.check(one, other), "worse")
        self.assertGreaterEqual(compared(one, other)[1]["o0", "p0"][0], 76)
        self.assertEqual(self.check(one, ("p0", other[1][:10] + (("p10", (("p0", ("a",)),)),))), "no worse")

    def test_small_pairs(self):
        words = {"no worse": 0, "worse": 0}
        for one, other in small_pairs(400):
            word = self.check(one, other)
            words[word] += 1
            self.assertEqual(word == "no worse", can_answer(one, other), (one, other))
        self.assertGreater(min(words.values()), 50)

    def test_skies_of_small_worlds(self):
        skies = [sky for _, sky in small_worlds(14)]
        for one in skies:
            for other in skies:
                self.assertEqual(self.check(one, other) == "no worse", can_answer(one, other))

    def test_large_skies(self):
        streets = tuple(f"r{k}" for k in range(20))
        names = [f"n{k}" for k in range(30)]
        one = ("n0", tuple((name, tuple((names[(k * 7 + j) % 30], streets[j:j + 3]) for j in range(12))) for k, name in enumerate(names)))
        other = ("n0", tuple((name, tuple((names[(k * 11 + j) % 30], streets[j:j + 9]) for j in range(12))) for k, name in enumerate(names)))
        self.assertEqual(self.check(one, other), "no worse")
        self.assertEqual(self.check(other, one), "worse")


class Relations(SkyCase):
    def told(self, wanted, one, other, thing):
        before = copy.deepcopy(thing)
        self.assertIs(is_relation(one, other, thing), wanted, thing)
        self.assertIs(comparison_holds(one, other, ("no worse", thing)), wanted)
        self.assertFalse(comparison_holds(one, other, ("worse", thing)))
        self.assertEqual(thing, before)

    def test_to_the_sign(self):
        self.told(True, CALM, STORM, {("calm", "s"): True})
        self.told(True, RARE, FAIR, {("dry", "dry"): True, ("wet", "wet"): True, ("rest", "dry"): True})
        self.told(True, EARLY, LATE, {("x", "x"): 1, ("left", "y"): 2, ("right", "y"): 3})

    def test_values_count_for_nothing(self):
        for value in (None, False, 0, -1, "no", (), [], {}, {1: 2}, (0, 0), 1.5):
            self.told(True, RARE, FAIR, {("dry", "dry"): value, ("wet", "wet"): True, ("rest", "dry"): value})

    def test_a_pair_that_lacks(self):
        whole = {("dry", "dry"): True, ("wet", "wet"): True, ("rest", "dry"): True}
        for pair in whole:
            self.told(False, RARE, FAIR, {other: True for other in whole if other != pair})
        self.told(False, CALM, STORM, {})

    def test_the_first_pair_lacks(self):
        sky = ("a", (("a", (("b", ()),)), ("b", (("b", ()),))))
        self.told(False, sky, sky, {("b", "b"): True})
        self.told(True, sky, sky, {("b", "b"): True, ("a", "a"): True})
        self.told(True, sky, sky, {("b", "b"): True, ("a", "b"): True, ("a", "a"): True, ("b", "a"): True})

    def test_a_pair_too_many(self):
        whole = {("dry", "dry"): True, ("wet", "wet"): True, ("rest", "dry"): True}
        self.told(True, RARE, FAIR, {**whole, ("rest", "wet"): True})
        self.told(True, RARE, FAIR, {**whole, ("wet", "dry"): True})
        # What snow falls of the one there isn't answered.
        self.told(False, RARE, FAIR, {**whole, ("dry", "wet"): True})
        lost = ("a", (("a", (("a", ()),)), ("lost", (("lost", ("hill",)),))))
        self.told(True, lost, CALM, {("a", "calm"): True})
        self.told(False, lost, CALM, {("a", "calm"): True, ("lost", "calm"): True})

    def test_keys_that_are_no_pairs_of_states(self):
        whole = {("calm", "s"): True}
        for key in (None, 0, "calm", "cs", (), ("calm",), ("calm", "s", "s"), ("s", "calm"), ("calm", "calm"), ("s", "s"), ("calm", None), (0, "s"), ("calm", "t")):
            self.told(False, CALM, STORM, {**whole, key: True})
            self.told(False, CALM, STORM, {key: True})

    def test_small_relations_changed(self):
        many = {True: 0, False: 0}
        for one, other in small_pairs(150):
            word, paper = compared(one, other)
            if word == "worse":
                continue
            pairs = [(state, there) for state, _ in one[1] for there, _ in other[1]]
            for pair in pairs:
                changed = {key: True for key in paper if key != pair} if pair in paper else {**paper, pair: True}
                wanted = relates(one, other, changed)
                many[wanted] += 1
                self.told(wanted, one, other, changed)
        self.assertGreater(min(many.values()), 20)

    def test_other_things(self):
        for thing in OTHER_THINGS:
            self.assertIs(is_relation(CALM, STORM, thing), False)
        for thing in (("calm", "s"), [("calm", "s")], (("calm", "s"),), {("calm", "s")}, (("calm", "s"), True)):
            self.told(False, CALM, STORM, thing)


class Leads(SkyCase):
    def told(self, wanted, one, other, thing):
        before = copy.deepcopy(thing)
        self.assertIs(is_lead(one, other, thing), wanted, thing)
        self.assertIs(comparison_holds(one, other, ("worse", thing)), wanted)
        self.assertFalse(comparison_holds(one, other, ("no worse", thing)) and wanted)
        self.assertEqual(thing, before)

    # In the fair sky it snows on the first tick and on the third one again; the rare one rests by then.
    LEAD = {("dry", "dry"): (2, 1), ("wet", "wet"): (1, 0), ("dry", "rest"): (0, 1)}

    def test_to_the_sign(self):
        self.told(True, STORM, CALM, {("s", "calm"): (0, 0)})
        self.told(True, FAIR, RARE, self.LEAD)
        self.told(True, FAIR, RARE, {pair: (rank * 5 + 3, arc) for pair, (rank, arc) in self.LEAD.items()})

    def test_each_pair_lacking(self):
        for pair in self.LEAD:
            self.told(False, FAIR, RARE, {other: move for other, move in self.LEAD.items() if other != pair})
        self.told(False, FAIR, RARE, {})

    def test_the_first_pair_lacks(self):
        self.told(False, FAIR, RARE, {("dry", "rest"): (0, 1)})
        self.told(False, FAIR, RARE, {("dry", "rest"): (0, 1), ("wet", "wet"): (1, 0)})

    def test_ranks(self):
        for pair, (rank, arc) in self.LEAD.items():
            for other in (None, True, False, "0", -1, -rank - 1, rank + 0.5, (rank,), [rank]):
                self.told(False, FAIR, RARE, {**self.LEAD, pair: (other, arc)})
        self.told(False, FAIR, RARE, {**self.LEAD, ("dry", "dry"): (1, 1)})
        self.told(False, FAIR, RARE, {**self.LEAD, ("dry", "dry"): (0, 1)})
        self.told(False, FAIR, RARE, {**self.LEAD, ("wet", "wet"): (0, 0)})
        self.told(False, FAIR, RARE, {**self.LEAD, ("wet", "wet"): (2, 0)})
        self.told(False, FAIR, RARE, {**self.LEAD, ("dry", "rest"): (1, 1)})
        self.told(True, FAIR, RARE, {**self.LEAD, ("dry", "dry"): (99, 1)})

    def test_arcs(self):
        for pair, (rank, arc) in self.LEAD.items():
            many = 2 if pair[0] == "dry" else 1
            for other in (None, True, False, "0", -1, many, many + 7, arc + 0.5, (arc,), [arc]):
                self.told(False, FAIR, RARE, {**self.LEAD, pair: (rank, other)})
        self.told(False, FAIR, RARE, {**self.LEAD, ("dry", "dry"): (2, 0)})
        self.told(False, FAIR, RARE, {**self.LEAD, ("dry", "rest"): (0, 0)})

    def test_values_that_are_no_pairs(self):
        for pair in self.LEAD:
            for move in (None, 0, True, "00", (), (0,), (0, 1, 0), [0, 1], {0: 0, 1: 1}):
                self.told(False, FAIR, RARE, {**self.LEAD, pair: move})

    def test_a_pair_too_many(self):
        self.told(True, FAIR, RARE, {**self.LEAD, ("dry", "wet"): (0, 1)})
        self.told(True, FAIR, RARE, {**self.LEAD, ("wet", "rest"): (3, 0)})
        self.told(False, FAIR, RARE, {**self.LEAD, ("wet", "rest"): (2, 0)})
        self.told(False, FAIR, RARE, {**self.LEAD, ("wet", "rest"): (0, 0)})
        self.told(False, FAIR, RARE, {**self.LEAD, ("dry", "wet"): (0, 0)})
        self.told(False, FAIR, RARE, {**self.LEAD, ("dry", "wet"): (-1, 1)})
        self.told(False, FAIR, RARE, {**self.LEAD, ("dry", "wet"): None})

    def test_keys_that_are_no_pairs_of_states(self):
        for key in (None, 0, "s", (), ("s",), ("s", "calm", "calm"), ("calm", "s"), ("s", "s"), ("calm", "calm"), ("s", None), (0, "calm"), ("t", "calm")):
            self.told(False, STORM, CALM, {("s", "calm"): (0, 0), key: (0, 0)})
            self.told(False, STORM, CALM, {key: (0, 0)})

    def test_small_leads_changed(self):
        many = {True: 0, False: 0}
        for one, other in small_pairs(150):
            word, paper = compared(one, other)
            if word == "no worse":
                continue
            changes = []
            for pair, (rank, arc) in paper.items():
                changes += [{**paper, pair: (rank + 1, arc)}, {**paper, pair: (rank - 1, arc)}, {**paper, pair: (rank, arc + 1)}]
                changes += [{**paper, pair: (rank, 0)}, {key: move for key, move in paper.items() if key != pair}]
            for state, _ in one[1]:
                for there, _ in other[1]:
                    if (state, there) not in paper:
                        changes += [{**paper, (state, there): (rank, 0)} for rank in (0, 9)]
            for changed in changes:
                wanted = leads(one, other, changed)
                many[wanted] += 1
                self.told(wanted, one, other, changed)
        self.assertGreater(min(many.values()), 20)

    def test_other_things(self):
        for thing in OTHER_THINGS:
            self.assertIs(is_lead(STORM, CALM, thing), False)
        for thing in (("s", "calm"), [("s", "calm")], (("s", "calm"),), {("s", "calm")}, (("s", "calm"), (0, 0)), {("s", "calm"): True}):
            self.told(False, STORM, CALM, thing)


class Holds(SkyCase):
    def test_the_word_counts(self):
        relation, lead = {("calm", "s"): True}, {("s", "calm"): (0, 0)}
        self.assertIs(comparison_holds(CALM, STORM, ("no worse", relation)), True)
        self.assertIs(comparison_holds(STORM, CALM, ("worse", lead)), True)
        self.assertIs(comparison_holds(CALM, STORM, ("worse", relation)), False)
        self.assertIs(comparison_holds(STORM, CALM, ("no worse", lead)), False)
        for word in ("", "No worse", "better", "no worse ", "promised", None, 0, True, ("no worse",), ["no worse"], b"no worse"):
            self.assertIs(comparison_holds(CALM, STORM, (word, relation)), False)
            self.assertIs(comparison_holds(STORM, CALM, (word, lead)), False)

    def test_other_things(self):
        relation, lead = {("calm", "s"): True}, {("s", "calm"): (0, 0)}
        for thing in OTHER_THINGS:
            self.assertIs(comparison_holds(CALM, STORM, thing), False)
            self.assertIs(comparison_holds(CALM, STORM, ("no worse", thing)), False)
            self.assertIs(comparison_holds(STORM, CALM, ("worse", thing)), False)
        for thing in (["no worse", relation], ("no worse",), ("no worse", relation, relation), (relation, "no worse"), relation, "no worse"):
            self.assertIs(comparison_holds(CALM, STORM, thing), False)
        for thing in (["worse", lead], ("worse",), ("worse", lead, lead), (lead, "worse"), lead, "worse"):
            self.assertIs(comparison_holds(STORM, CALM, thing), False)

    def test_arguments_stay(self):
        told = ("worse", {("s", "calm"): (0, 0)})
        things = (STORM, CALM, told)
        before = copy.deepcopy(things)
        comparison_holds(*things)
        self.assertEqual(things, before)


if __name__ == "__main__":
    unittest.main()
