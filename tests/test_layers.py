"""Section 12: layers."""

from itertools import combinations, permutations, product
from random import Random

from tests.case import Case
from tests.samples import (
    ANY_VALUES, CHAIN, DRUM, FOUR, LONE, LONG, LOOP, NO_ROOMS, PAIR, PRISM, RING, THREE, TREE, WEBS, even_lots,
    loads_by_ends, lot_between, made_trees, nested, row_of, standings, tree_loads, web_of,
)
from threeroadcars.counting import count
from threeroadcars.errors import BadLayer, BadLoad, BadRoom, HasRounds
from threeroadcars.layers import layers, shows_layers, tracks
from threeroadcars.numbering import load_at
from threeroadcars.webs import Web

TREES = [LONE, FOUR, TREE, LONG, Web(row_of(3)), web_of('a b x', 'c d y', 'e f z', 'x y z'), *made_trees(60, 101)]
ROUND = [web for web in WEBS if web.rounds]
NO_LOADS = (
    *ANY_VALUES, (1, 1, 1, 1, 1), [1, 1, 1, 1, 2], (1, 1, 1, 1), (1, 1, 1, 1, 2, 0), (1, 1, 1, True, 2),
    (1, 1, 1, 1, None), (3, 3, 3, 3, 2), (1, 1, 1, -1, 2), ((1, 1, 1, 1, 2),), (1, 1, 1, 1, '2'),
)


def shown_plainly(web, room, load, value):
    """Whether a tuple of tuples of names is right, as section 12 tells."""
    for layer in value:
        if list(layer) != sorted(set(layer)) or not set(layer) <= set(web.roads):
            return False
        if any(standings(layer, words) not in (0, 2) for words in web.junctions):
            return False
    return len(value) == room and load == tuple(sum(road in layer for layer in value) for road in web.roads)


def tracks_plainly(web, layer):
    """The ways of a layer: roads that are joined at the junctions that have two of them."""
    ways = [(road,) for road in layer if road in web.ends]
    told = []
    for way in ways:
        here = [words for words in web.junctions if way[0] in words][0]
        while here is not None:
            way += tuple(word for word in here if word in layer and word != way[-1])
            further = [words for words in web.junctions if way[-1] in words and words != here]
            here = further[0] if further else None
        if way[0] < way[-1]:
            told.append(way)
    return tuple(sorted(told))


class Layers(Case):

    def check_told(self, web, room, load):
        with self.subTest(web=web.text, room=room, load=load):
            told = layers(web, room, load)
            self.assertIs(type(told), tuple)
            self.assertEqual({type(layer) for layer in told}, {tuple} if room else set())
            self.assertTrue(shown_plainly(web, room, load, told))
            self.assertIs(shows_layers(web, room, load, told), True)

    def test_all_loads_of_small_webs(self):
        for web in (LONE, FOUR, TREE, Web(row_of(3)), web_of('a b x', 'c d y', 'e f z', 'x y z')):
            for room in (0, 1, 2, 3) if len(web) < 4 else (0, 1, 2):
                for loads in loads_by_ends(web.text, room).values():
                    for load in loads:
                        self.check_told(web, room, load)

    def test_sums_of_layers(self):
        chance = Random(102)
        for web in TREES:
            for room in (1, 5, 17, 40):
                for load in tree_loads(web, room, 2, chance):
                    self.check_told(web, room, load)

    def test_loads_by_number(self):
        chance = Random(103)
        for web in TREES:
            for room in (40, 13):
                ends = tuple(2 * chance.randint(0, room // 2) for _ in web.ends)
                many = count(web, room, ends)
                for number in {0, many - 1, chance.randrange(many)} if many else ():
                    load = load_at(web, room, ends, number)
                    self.check_told(web, room, load)

    def test_room_nought_and_loads_of_nought(self):
        for web in TREES:
            zeros = (0,) * len(web.roads)
            self.assertEqual(layers(web, 0, zeros), ())
            self.assertIs(shows_layers(web, 0, zeros, ()), True)
            self.assertIs(shows_layers(web, 0, zeros, ((),)), False)
            self.assertEqual(layers(web, 3, zeros), ((), (), ()))

    def test_more_room_than_is_needed(self):
        load = (1, 1, 1, 1, 0)
        for room in range(1, 41):
            self.check_told(FOUR, room, load)

    def test_just_full(self):
        self.assertEqual(sorted(layers(LONE, 3, (2, 2, 2))), [('a', 'b'), ('a', 'c'), ('b', 'c')])
        self.assertEqual(layers(LONE, 2, (2, 2, 0)), (('a', 'b'), ('a', 'b')))
        five = Web(row_of(3))
        self.check_told(five, 40, (20, 20, 40, 20, 20, 20, 20))
        self.check_told(LONE, 40, (40, 20, 20))
        self.assertEqual(five.roads, ('ea', 'eb', 'ec', 'ra', 'rb', 'rc', 'rd'))


class ShowsLayers(Case):

    def test_all_rows_of_layers(self):
        for web in (LONE, FOUR, TREE):
            lots = even_lots(web)
            for room in (0, 1, 2, 3):
                for value in product(lots, repeat=room):
                    load = tuple(sum(road in layer for layer in value) for road in web.roads)
                    self.assertIs(shows_layers(web, room, load, value), True)
                    for other in loads_by_ends(web.text, room)[(0,) * len(web.ends)]:
                        self.assertIs(shows_layers(web, room, other, value), other == load)

    def test_in_another_sequence(self):
        chance = Random(104)
        for web in TREES[:20]:
            load = tree_loads(web, 4, 1, chance)[0]
            for value in permutations(layers(web, 4, load)):
                self.assertIs(shows_layers(web, 4, load, value), True)

    def test_one_out_one_twice_one_otherwise(self):
        chance, seen = Random(105), []
        for web in TREES:
            room = chance.choice((2, 3, 9, 40))
            load = tree_loads(web, room, 1, chance)[0]
            right, lot = layers(web, room, load), lot_between(web, chance.sample(web.ends, 2))
            at = chance.randrange(room)
            for value in (right[1:], right[:-1], right + ((),), right + right[:1], (right[0],) + right[:-1],
                          right[:at] + (lot,) + right[at + 1:], right[at:] + right[:at],
                          right[:at] + (right[at][1:],) + right[at + 1:],
                          right[:at] + (right[at][::-1],) + right[at + 1:],
                          right[:at] + (right[at] + web.roads[-1:],) + right[at + 1:]):
                told = shows_layers(web, room, load, value)
                self.assertIs(told, shown_plainly(web, room, load, value))
                seen.append(told)
            self.assertIs(shows_layers(web, room, load, right[1:]), False)
            self.assertIs(shows_layers(web, room, load, right + ((),)), False)
        self.assertGreater(min(seen.count(True), seen.count(False)), 30)

    def test_values_of_any_kind(self):
        load, right = (1, 1, 1, 1, 2), (('a', 'c', 'r'), ('b', 'd', 'r'))
        self.assertIs(shows_layers(FOUR, 2, load, right), True)
        for value in (*ANY_VALUES, list(right), [list(row) for row in right], (list(right[0]), right[1]), right[0],
                      (right,), right * 2, (right[0], None), (right[0], 'bdr'), ('acr', 'bdr'), (right[0], ()),
                      (('a', 'd', 'r'), ('b', 'd', 'r')), (('a', 'r', 'c'), right[1]), (('a', 'c', 'r', 'r'), right[1]),
                      (('a', 'c', 'x'), right[1]), (right[0], ('b', 'd', 1)), (right[0], ('b', 'd', ['r'])),
                      (right[0], {'b': 1, 'd': 1, 'r': 1}), (nested(29), nested(29)), (FOUR, FOUR), (1, 1)):
            self.assertIs(shows_layers(FOUR, 2, load, value), False)


class Tracks(Case):

    def test_all_layers(self):
        for web in TREES:
            if len(web) < 8:
                for layer in even_lots(web):
                    told = tracks(web, layer)
                    self.assertEqual(told, tracks_plainly(web, layer))
                    self.assertEqual({type(way) for way in told} | {tuple}, {tuple})
                    self.assertEqual(sorted(road for way in told for road in way), list(layer))

    def test_told_layers_of_large_webs(self):
        chance = Random(106)
        for web in TREES:
            for layer in layers(web, 5, tree_loads(web, 5, 1, chance)[0]):
                told = tracks(web, layer)
                self.assertEqual(told, tracks_plainly(web, layer))
                self.assertEqual(list(told), sorted(told))
                for way in told:
                    self.assertLess(way[0], way[-1])
                    self.assertEqual([road in web.ends for road in way], [True] + [False] * (len(way) - 2) + [True])

    def test_long_ways(self):
        names = ('ra', *['r' + chr(98 + number) for number in range(12)])
        self.assertEqual(tracks(LONG, names), (names,))
        self.assertEqual(tracks(LONG, ('ea', 'el', *names[1:-1])), (('ea', *names[1:-1], 'el'),))
        self.assertEqual(tracks(web_of('z r a', 'r c b'), ('b', 'r', 'z')), (('b', 'r', 'z'),))

    def test_what_is_no_layer(self):
        for web in (LONE, FOUR, TREE):
            right = even_lots(web)
            for size in range(len(web.roads) + 1):
                for names in combinations(web.roads, size):
                    if names not in right:
                        self.refuse(BadLayer, names, tracks, web, names)

    def test_lots_not_ascending(self):
        for names in (('b', 'a'), ('c', 'a', 'r'), ('a', 'r', 'c'), ('a', 'a'), ('a', 'b', 'b'), ('a', 'a', 'b', 'b')):
            self.refuse(BadLayer, names, tracks, FOUR, names)

    def test_values_of_any_kind(self):
        for value in ANY_VALUES:
            if value != ():
                self.refuse(BadLayer, value, tracks, FOUR, value)
        for value in (['a', 'b'], 'ab', ('ab',), ('a', None), ('a', ['b']), (('a', 'b'),), {'a': 1, 'b': 1}, (1, 2),
                      ('a', 'x'), ('a', 'A'), (nested(29),), ('', 'a'), [], '', None, 0, False):
            self.refuse(BadLayer, value, tracks, FOUR, value)


class WrongArguments(Case):

    def test_rounds_come_ahead_of_all_else(self):
        for web in (*ROUND, CHAIN, DRUM):
            zeros = (0,) * len(web.roads)
            for room, load in product((0, 3, 40, 41, -1, None, True), (zeros, None, [0])):
                for function, more in ((layers, ()), (shows_layers, ((),)), (shows_layers, (None,))):
                    with self.assertRaises(HasRounds) as caught:
                        function(web, room, load, *more)
                    self.assertEqual([type(caught.exception), caught.exception.value], [HasRounds, web.rounds])
            for layer in ((), None, ['a'], web.roads):
                with self.assertRaises(HasRounds) as caught:
                    tracks(web, layer)
                self.assertEqual(caught.exception.value, web.rounds)
        self.assertEqual({web.rounds for web in (LOOP, RING, THREE, PAIR, PRISM)}, {1, 2, 4})

    def test_rooms(self):
        for room in (*NO_ROOMS, 41, 42, 60, 10 ** 12):
            for load in ((0,) * 5, None, (1,)):
                self.refuse(BadRoom, room, layers, FOUR, room, load)
                self.refuse(BadRoom, room, shows_layers, FOUR, room, load, ())
        self.assertEqual(len(layers(FOUR, 40, (0,) * 5)), 40)

    def test_loads(self):
        for load in NO_LOADS:
            self.refuse(BadLoad, load, layers, FOUR, 2, load)
            self.refuse(BadLoad, load, shows_layers, FOUR, 2, load, ())
        load = (1, 1, 1, 1, 2)
        self.refuse(BadLoad, load, layers, FOUR, 1, load)
        self.refuse(BadLoad, load, shows_layers, FOUR, 1, load, (('a', 'b', 'c', 'd'),))


class Conventions(Case):

    def test_equal_calls_return_equal_results(self):
        chance = Random(107)
        for web in TREES:
            again, load = Web(web.text), tree_loads(web, 6, 1, chance)[0]
            told = layers(web, 6, load)
            self.assertEqual(layers(again, 6, load), told)
            self.assertEqual(tracks(again, told[0]), tracks(web, told[0]))

    def test_nothing_changes_its_arguments(self):
        web, value, load = Web(FOUR.text), [['a', 'b'], ['c', 'd']], (1, 1, 1, 1, 0)
        self.assertIs(shows_layers(web, 2, load, value), False)
        layers(web, 2, load)
        self.refuse(BadLayer, value, tracks, web, value)
        self.assertEqual([value, web, web.junctions], [[['a', 'b'], ['c', 'd']], FOUR, FOUR.junctions])

    def test_a_load_is_the_sum_of_its_layers_and_tracks(self):
        chance = Random(108)
        for web in TREES:
            for load in tree_loads(web, 9, 2, chance):
                roads = [road for layer in layers(web, 9, load) for way in tracks(web, layer) for road in way]
                self.assertEqual(load, tuple(roads.count(road) for road in web.roads))

    def test_layers_twice_are_layers_of_what_is_twice_as_great(self):
        chance = Random(109)
        for web in TREES:
            load = tree_loads(web, 20, 1, chance)[0]
            twice = tuple(2 * number for number in load)
            self.assertIs(shows_layers(web, 40, twice, layers(web, 20, load) * 2), True)

    def test_rounds_bar_layers(self):
        """The document's web with rounds: no two lots of which each junction has none or two make its load."""
        for one, other in product(even_lots(PAIR), repeat=2):
            self.assertNotEqual(tuple((road in one) + (road in other) for road in PAIR.roads), (1, 2, 1))
        with self.assertRaises(HasRounds):
            layers(PAIR, 2, (1, 2, 1))
