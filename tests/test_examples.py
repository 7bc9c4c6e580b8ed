"""The examples of the document, section by section, as they stand there: each goes on with the names of those ahead."""

import doctest
import unittest

EXAMPLES = {}

EXAMPLES[4] = r'''
>>> from guardedwires.words import independent, joined, passes, product, shows_independent, touched
>>> [passes('+XZ', '-ZX'), passes('+XI', '+ZI'), product('+XI', '+YI'), product('+XX', '+ZZ'), joined(('+XX', '-ZZ')), touched('-IXZ')]
[True, False, (1, 'ZI'), (2, 'YY'), '+YY', (1, 2)]
>>> [independent(('+XX', '+ZZ', '+YY')), independent(('+XX', '-ZI')), shows_independent(('+X', '-X', '+Z'), ('product', (0, 1)))]
[('product', (0, 1, 2)), ('independent',), True]
'''

EXAMPLES[5] = r'''
>>> from guardedwires.gates import back, gates_of, led, same_gates, shows_gates_of, table
>>> [led('+XI', ('cx 0 1',)), led('+YY', ('cx 0 1',)), led('+XX', ('cz 0 1',)), led('-Y', ('s 0', 'h 0')), back('+ZX', ('swap 0 1', 'h 0'))]
['+XX', '-XZ', '+YY', '+Z', '+XX']
>>> [table(1, ('h 0', 's 0')), same_gates(1, ('s 0', 's 0'), ('z 0',)), same_gates(2, ('cz 0 1',), ('h 1', 'cx 0 1', 'h 1')), same_gates(1, ('x 0',), ('z 0',))[0]]
[(('+Z', '+Y'),), ('same',), ('same',), 'apart']
>>> [table(2, gates_of((('+XX', '+ZI'), ('+IX', '+ZZ')))), shows_gates_of((('+Z', '+X'),), ('h 0',))]
[(('+XX', '+ZI'), ('+IX', '+ZZ')), True]
'''

EXAMPLES[6] = r'''
>>> from guardedwires.spans import firsts, made, parted, rank, shows_made, shows_word_gates, sizes, span_gates, within, word_gates
>>> square = ('XXII', 'IIXX', 'ZIZI', 'IZIZ')
>>> [rank(4, square), firsts(3, ('III', 'XYZ', 'XYZ', 'ZZI', 'YXZ')), sizes(4, square), sizes(2, ('XI', 'ZI')), sizes(2, ())]
[4, (1, 3), (2, 1), (0, 1), (0, 0)]
>>> [made(4, square, 'YXZI'), shows_made(2, ('XX', 'ZZ'), 'XI', ('bar', 'ZZ')), shows_made(2, ('XX', 'ZZ'), 'XI', ('bar', 'IX'))]
[('made', (0, 2)), True, False]
>>> [within(2, ('XX', 'YY'), ('XX', 'ZZ')), within(2, ('XX', 'IZ'), ('XX', 'ZZ'))[:2], parted(1, ('X', 'X'))]
[('within',), ('apart', 1), (('X',), ())]
>>> [span_gates(2, ('XI', 'ZI'), ('ZZ', 'IX'))[0], span_gates(2, ('XI', 'ZI'), ('XX', 'ZZ')), word_gates(2, ('+XI', '+ZI'), ('+XI', '-IZ'))]
['gates', ('sizes', (0, 1), (2, 0)), ('crossing', 0, 1)]
>>> shows_word_gates(1, ('+X',), ('-Z',), ('gates', ('h 0', 'x 0')))
True
'''

EXAMPLES[7] = r'''
>>> from guardedwires.unpassing import bare_on, carried, dressed_on, least_dressed, shows_bare_frame, shows_spared, spared
>>> [carried(4, square), shows_bare_frame(4, square, (('XIXI', 'ZZII'),)), shows_bare_frame(4, square, (('XIIX', 'ZZII'),)), carried(2, ())]
[1, True, False, 2]
>>> [bare_on(4, square, (0, 1)), dressed_on(4, square, (2, 3))[0], bare_on(4, square, (0, 3)), dressed_on(4, square, (1, 2))[0], least_dressed(4, square)[0]]
[(1, ('ZZII',)), 1, (0, ()), 2, 2]
>>> [spared(4, square, (0,))[0], shows_spared(4, square, (0,), ('moved', (('IXIX', 'IIZZ'),))), shows_spared(4, square, (0, 1), ('dressed', 'YYII'))]
['moved', True, True]
'''

EXAMPLES[8] = r'''
>>> from guardedwires.guards import Guard, exchanged, group, in_steps, led_guard, same_group, side_by_side
>>> three = Guard('wires 3\nguard +ZZI\nguard +IZZ')
>>> four = Guard('wires 4\nguard +XXXX\nguard +ZZZZ')
>>> [three.kept, len(four), '+ZIZ' in three, '-ZIZ' in three, group(three), in_steps(three).words]
[1, 2, True, False, ('+III', '+IZZ', '+ZIZ', '+ZZI'), ('+ZIZ', '+IZZ')]
>>> [same_group(three, in_steps(three)), same_group(three, led_guard(three, ('x 0',)))[0], led_guard(three, ('h 0', 'h 1', 'h 2')).words, exchanged(three, (1, 2, 0)).words]
[('same',), 'signs', ('+XXI', '+IXX'), ('+ZIZ', '+ZZI')]
>>> [four.with_word('+XXII').kept, four.without(0).words, side_by_side(three, Guard('wires 1')).words]
[1, ('+ZZZZ',), ('+ZZII', '+IZZI')]
'''

EXAMPLES[9] = r'''
>>> from guardedwires.kinds import alike_beside, kind, shows_kind, signs
>>> [kind(three, '+ZIZ'), kind(three, '-III'), kind(three, '-ZZI'), kind(three, '+XII'), kind(three, '+XXX')[0], shows_kind(three, '+XXX', ('kept', '-IZI'))]
[('guard', (0, 1)), ('contrary', ()), ('contrary', (0,)), ('seen', (0,)), 'kept', True]
>>> [signs(three, 'IXI'), alike_beside(three, '+ZII', '+IIZ'), alike_beside(three, '+ZII', '-IZI'), alike_beside(three, '+ZII', '+XXX')[0]]
[(0, 1), ('alike', (0, 1)), ('contrary', (0,)), 'unlike']
'''

EXAMPLES[10] = r'''
>>> from guardedwires.frames import frame, same_frame, shows_frame, shows_turned_frame, told_in
>>> pairs = (('+XXX', '+ZII'),)
>>> [shows_frame(three, pairs), frame(Guard('wires 1\nguard +Z')), told_in(three, pairs, '+YYX'), told_in(three, pairs, '-IIZ'), same_frame(three, pairs, (('+XXX', '-IZI'),))]
[True, (), ((0,), ()), ((), (0,)), ('signs', 0, 1)]
>>> [shows_turned_frame(three, pairs, ('+ZII',), (('-YXX', '+IIZ'),)), shows_turned_frame(three, pairs, ('+ZII',), pairs)]
[True, False]
'''

EXAMPLES[11] = r'''
>>> from guardedwires.guards import Guard
>>> from guardedwires.losing import apart, cleaned, least_lots, least_word, lost, lying, moved, shows_lost
>>> pair, four = Guard('wires 2\nguard +ZZ'), Guard('wires 4\nguard +XXXX\nguard +ZZZZ')
>>> five = Guard('wires 5\nguard +XZZXI\nguard +IXZZX\nguard +XIXZZ\nguard +ZXIXZ')
>>> [lying(pair, (0,)), [len(part) for part in lying(four, (0, 1))], cleaned(four, (0,), 'XXII'), cleaned(pair, (0,), 'XX'), cleaned(pair, (0,), 'ZI')]
[((), ('ZI',)), [0, 2], ('moved', (0,), 'IIXX'), ('barred', 'ZI'), ('moved', (0,), 'IZ')]
>>> off = (('+IXXI', '+IIZZ'), ('+IIXX', '+IZZI'))
>>> [lost(pair, (0,))[0], lost(four, (0,))[0], shows_lost(four, (0,), ('may', off)), moved(four, (1,), off)[0], least_lots(pair), len(least_lots(five))]
['must not', 'may', True, ((0,), ()), ((0,), (1,)), 10]
>>> [least_word(four)[0], least_word(five)[0], apart(four, (0,), (1,))[0], apart(pair, (0,), ())[0]]
[2, 3, 'tied', 'apart']
'''

EXAMPLES[12] = r'''
>>> from guardedwires.counting import by_lots, of_group, of_passing, other_row
>>> [of_group(four), of_passing(four), other_row((1, 0, 0, 0, 3)), other_row((1, 0, 18, 24, 21)), of_group(five)]
[(1, 0, 0, 0, 3), (1, 0, 18, 24, 21), (1, 0, 18, 24, 21), (1, 0, 0, 0, 3), (1, 0, 0, 0, 15, 0)]
>>> by_lots(pair)
(((), 0, 0), ((0,), 0, 1), ((1,), 0, 1), ((0, 1), 1, 3))
'''

EXAMPLES[13] = r'''
>>> from guardedwires.guards import Guard
>>> from guardedwires.mending import answered, best_table, mended, most_mended, shows_best_table, shows_mended
>>> from guardedwires.mending import shows_two_faults, two_faults
>>> three = Guard('wires 3\nguard +ZZI\nguard +IZZ')
>>> told = mended(three, ('III', 'IIX', 'IXI', 'XII'))
>>> [told[0], [row[0] for row in told[1]], shows_mended(three, ('III', 'IIX', 'IXI', 'XII'), ('table', (((), 'III'), ((0,), 'XZZ'), ((0, 1), 'IXI'), ((1,), 'IIX'))))]
['table', [(), (0,), (0, 1), (1,)], True]
>>> [mended(three, ('III', 'ZII')), most_mended(three)[0], two_faults(three, 0), shows_two_faults(three, 1, ('IIX', 'IIY'))]
[('spoils', 'III', 'ZII'), 0, None, True]
>>> [answered(three, (((0,), 'XII'),), one) for one in ('XII', 'IXX', 'IXI', 'XZZ')]
[('mended',), ('turned', 'XXX'), ('none',), ('mended',)]
>>> [best_table(three, ('III', 'IIX', 'XXI'), (5, 2, 3))[0], shows_best_table(three, ('III', 'IIX', 'XXI'), (5, 2, 3), (8, (((), 'III'), ((1,), 'XXI'))))]
[8, True]
>>> five = Guard('wires 5\nguard +XZZXI\nguard +IXZZX\nguard +XIXZZ\nguard +ZXIXZ')
>>> [most_mended(five)[0], two_faults(five, 1), two_faults(five, 2) is None]
[1, None, False]
'''

EXAMPLES[14] = r'''
>>> from guardedwires.guards import Guard
>>> from guardedwires.looks import along, foretold, gone, looked, went
>>> one = Guard('wires 2\nguard +ZI')
>>> [foretold(one, 'ZI'), foretold(one, 'IZ'), foretold(one, 'XX')]
[('sure', '+'), ('reads',), ('falls', 0)]
>>> looked(one, '-XX').words
('-XX',)
>>> went(one, (('+IX', '+IZ'),), '+XX')
(('+IX', '+ZZ'),)
>>> [along(one, ('+XX', '+YI', '+ZI')).words, gone(one, (('+IX', '+IZ'),), ('+XX', '+YI', '+ZI'))]
[('+ZI',), (('+IX', '-IY'),)]
'''

EXAMPLES[15] = r'''
>>> from guardedwires.guards import Guard
>>> from guardedwires.fewest import absent_and_crossing, fewest
>>> [absent_and_crossing(Guard('wires 1\nguard +Z'), Guard('wires 1\nguard ' + word)) for word in ('+Z', '+X', '-Z')]
[(0, 0), (1, 1), (1, 0)]
>>> fewest(Guard('wires 1\nguard +Z'), Guard('wires 1\nguard -Z'))[0]
2
>>> fewest(Guard('wires 2\nguard +ZI'), Guard('wires 2\nguard +IZ'))[0]
2
'''

EXAMPLES[16] = r'''
>>> from guardedwires.guards import Guard
>>> from guardedwires.looks import gone
>>> from guardedwires.steering import shows_steer, shows_turned_by, steer
>>> one = Guard('wires 2\nguard +ZI')
>>> shows_turned_by(one, (('+IX', '+IZ'),), '+IX', (('+XX', '+YI', '+ZI'), (('+IX', '-IY'),)))
True
>>> shows_steer(one, (('+IX', '+IZ'),), (('+IX', '+ZZ'),), ())
True
>>> gone(one, (('+IX', '+IZ'),), steer(one, (('+IX', '+IZ'),), (('+IZ', '+IX'),)))[0][0] in ('+IZ', '+ZZ')
True
'''

EXAMPLES[17] = r'''
>>> from guardedwires.reading import behind, first_reading, read_alike, reads, shows_reads
>>> [shows_reads(four, ('+XXII',), (('-IIXX',), (('+XIXI', '+ZZII'),))), shows_reads(four, ('+XXII',), (('+XXII',), (('+XXII', '+ZIZI'),)))]
[True, False]
>>> [behind(three, ('-XII', '+ZZI')).words, first_reading(three, ('+ZII', '+XXX')), first_reading(four, ('+XIII', '+ZIII')), read_alike(four, ('+XXII',), ('-IIXX', '+XXXX'))]
[('+ZIZ', '+IZZ'), 0, None, ('alike',)]
'''

EXAMPLES[18] = r'''
>>> from guardedwires.holders import blind_holders, can_tell, least_holders, shows_told_on, told_on
>>> parted = ((0, 1), (2, 3), (4,))
>>> [shows_told_on(four, (0, 1), ((), (('+XXII', '+IIXX'), ('+ZZII', '+IIZZ')), ())), [len(part) for part in told_on(five, (0, 1, 2))], [len(part) for part in told_on(pair, (0,))]]
[True, [1, 0, 0], [0, 1, 0]]
>>> [least_holders(five, parted), blind_holders(five, parted), can_tell(five, parted, (0, 2)), can_tell(five, parted, ()), can_tell(four, ((0, 1), (2, 3)), (1,))]
[((0, 1), (0, 2), (1, 2)), ((0,), (1,), (2,)), 'all', 'nothing', 'part']
'''

EXAMPLES[19] = r'''
>>> from guardedwires.sharing import brought, shared, shows_brought
>>> bell = Guard('wires 2\nguard +XX\nguard +ZZ')
>>> [shared(bell, (0,)), shared(pair, (0,)), shared(four, (0, 1)), shared(five, (0, 1)), shows_brought(bell, (0,), ((), ())), shows_brought(pair, (1,), (('h 1',), ('h 0',)))]
[(1, 0, 0, 0), (0, 1, 0, 0), (0, 2, 0, 0), (2, 0, 0, 0), True, False]
'''

EXAMPLES[20] = r'''
>>> from guardedwires.nets import as_net, cut, cuts, net_guard, shows_as_net
>>> line, star = ((0, 1), (1, 2), (2, 3)), ((0, 1), (0, 2), (0, 3))
>>> [net_guard(3, ((0, 1), (1, 2))).words, cut(4, line, (0, 2)), cut(4, star, (0, 2)), cuts(2, ((0, 1),))]
[('+XZI', '+ZXZ', '+IZX'), 2, 1, (((0,), 1), ((0, 1), 0))]
>>> pair = Guard('wires 2\nguard +XX\nguard +ZZ')
>>> [shows_as_net(pair, (((0, 1),), ('h 1',))), shows_as_net(pair, (((0, 1),), ())), as_net(pair)[0]]
[True, False, ((0, 1),)]
'''

EXAMPLES[21] = r'''
>>> from guardedwires.turning import all_turned, fewest_ties, looked_net, one_net, shows_looked_net, shows_one_net, turned
>>> short, round_three = ((0, 1), (1, 2)), ((0, 1), (0, 2), (1, 2))
>>> [turned(3, short, 1) == round_three, turned(3, short, 0) == short, one_net(3, short, round_three)[:2], len(all_turned(3, short))]
[True, True, ('turns', (1,)), 4]
>>> [one_net(4, line, star)[0], shows_one_net(4, line, star, ('apart', (0, 2))), shows_one_net(4, line, star, ('apart', (0, 1))), fewest_ties(3, round_three)[0]]
['apart', True, False, 2]
>>> [shows_looked_net(3, short, 1, '+Z', ((), ('h 1',))), shows_looked_net(3, short, 1, '-Z', ((), ('h 1',))), looked_net(2, (), 0, '+X')[0]]
[True, False, ()]
'''

EXAMPLES[22] = r'''
>>> from guardedwires.flows import fewest_layers, flow, last, owed, shows_flow
>>> row = Guard('wires 3\nguard +XZI\nguard +ZXZ\nguard +IZX')
>>> [flow(row, (0, 1))[1], flow(row, (0, 1))[2][1], last(row, (0, 1), 0)[0], last(row, (0, 1), 1), flow(row, ())]
[(0, 1), '+IZX', 'barred', ('word', '+IZX'), ('flow', (), ())]
>>> [shows_flow(row, (0, 1, 2), ('stuck', (0, 1, 2), ('XZI', 'ZXZ', 'IZX'))), shows_flow(row, (0, 1), ('flow', (1, 0), ('+IZX', '+ZXZ')))]
[True, False]
>>> [owed(row, (0, 1), ('+ZXZ', '+IZX'), heard) for heard in ('++', '-+', '--', '+-')]
[('++', 'III'), ('+-', 'IIZ'), ('+-', 'IIY'), ('++', 'IIX')]
>>> twice = Guard('wires 4\nguard +XZII\nguard +ZXII\nguard +IIXZ\nguard +IIZX')
>>> fewest_layers(twice, (0, 2))
('layers', ((0, 2),), (('+ZXII', '+IIZX'),))
'''

EXAMPLES[23] = r'''
>>> from guardedwires.knobs import depth, quarter_turned, same_row, shows_same_row, working
>>> twin = Guard('wires 2\nguard +ZZ')
>>> one = (('a', '+ZI'), ('b', '+XX'), ('c', '-ZZ'))
>>> [working(twin, one), quarter_turned(twin, one, ('a',), '+XX'), quarter_turned(twin, one, ('a', 'b'), '+ZI'), depth(twin, one)]
[(0, 1), '-YX', '+YX', (((0,), (1,)), (0, 1))]
>>> [same_row(twin, one, (('a', '+IZ'), ('b', '-YY'))), same_row(twin, one, one[1::-1])[0], shows_same_row(twin, one, one[1::-1], ('apart', ('a', 'b'), '+ZI')), shows_same_row(twin, one, one, ('same', (0,)))]
[('same', ()), 'apart', True, False]
'''

EXAMPLES[24] = r'''
>>> from guardedwires.guards import Guard
>>> from guardedwires.wirework import done_by, keeps, kept_turns, shows_work, work
>>> pair, twin = Guard('wires 2\nguard +XX\nguard +ZZ'), Guard('wires 2\nguard +ZZ')
>>> firm = (('+XX', '+ZI'),)
>>> [keeps(pair, ('ZYX', 'ZYX')), keeps(twin, ('ZYX', 'XYZ'))[:2], kept_turns(pair)[0], [len(row) for row in kept_turns(pair)[1]], kept_turns(twin)[0]]
[('keeps', ((1,), (0,))), ('out', 0), 6, [6, 1], 4]
>>> [done_by(twin, firm, ('YXZ', 'XYZ')), work(twin, firm, ((0, 1), (1,)))[0], work(twin, firm, ((1,), (0,)))[0]]
[((0, 1), (1,)), 'turns', 'none']
>>> shows_work(twin, firm, ((1,), (0,)), ('none', ('wires', (('out', 1, 'ZI'), ('out', 0, 'ZI'), ('out', 1, 'ZI'), ('out', 0, 'ZI'), ('out', 0, 'ZI'), ('out', 0, 'ZI')))))
True
'''

EXAMPLES[26] = r'''
>>> from guardedwires.choosing import cheapest
>>> from guardedwires.guards import Guard
>>> from guardedwires.offers import by, choices
>>> from guardedwires.wishes import comes_true
>>> four = Guard('wires 4\nguard +XXXX\nguard +ZZZZ')
>>> bids = (('leave', 1, 3), ('look', '+XXII', 2), ('look', '-IIXX', 2))
>>> [len(choices(four, bids)), choices(four, bids)[1], by(four, choices(four, bids)[1]).kept, '+IIXX' in by(four, choices(four, bids)[1])]
[6, (('look', '+XXII', 2),), 1, True]
>>> [comes_true(four, wish) for wish in (('lost', (0,)), ('lost', (0, 1)), ('mended', 1), ('all', (0, 1, 2)), ('kept', '-IIXX'), ('told', '-XXXX'), ('keeps', 2))]
[True, False, False, True, True, False, True]
>>> cheapest(four, bids, (('keeps', 1), ('told', '-IIXX')))
('choice', 2, (('look', '-IIXX', 2),), (((), 1), ((('look', '+XXII', 2),), 1)))
'''

EXAMPLES[27] = r'''
>>> from guardedwires.machine import Machine
>>> machine = Machine(four)
>>> [machine.mark('a', '+XXII'), machine.mark('b', '+ZIZI'), machine.look('+ZIII'), machine.off('a', (0, 1)), machine.guard.kept, machine.look('-IIXX'), machine.read, machine.spoilt, machine.marks, machine.done]
[None, None, None, '+IIXX', 2, None, (('a', '-'),), ('b',), (), 4]
>>> [machine.undo(), machine.lose((2,)), [name for name, word in machine.marks], machine.spoilt, machine.guard.kept]
[None, None, ['b'], ('a',), 2]
>>> [machine.gate('h 1'), machine.bring(Guard('wires 1\nguard +X')), machine.guard.wires, machine.off('b', (0, 2, 4)), machine.told_by((0, 1, 3)), machine.told_by((0, 1))]
[None, None, 5, '+IXIZI', ('b',), ()]
'''

EXAMPLES[29] = r'''
>>> from guardedwires.desk import Desk
>>> from guardedwires.journals import journal, read_journal
>>> journal(machine).split('\n')[3:]
['machine', 'mark a +XXII', 'mark b +ZIZI', 'look +ZIII', 'lose 2', 'gate h 1', 'bring 1 +X']
>>> desk = Desk(journal(machine))
>>> [desk.say(line) for line in ('kind +ZIIII', 'kind -IIZII', 'kind +IIIII', 'tells 0 1 3', 'spoilt', 'read', 'keeps', 'undo', 'wires', 'look -ZXIZ', 'marks', 'read')]
['guard', 'contrary', 'guard', 'b', 'a', '.', '2', 'ok', '4', 'ok', '.', 'b-']
>>> read_journal(journal(machine)) == machine
True
'''


class Examples(unittest.TestCase):

    def test_examples(self):
        names = {}
        for section, text in EXAMPLES.items():
            test = doctest.DocTestParser().get_doctest(text, names, f"section {section}", None, 0)
            told = []
            result = doctest.DocTestRunner(verbose=False).run(test, out=told.append, clear_globs=False)
            self.assertEqual(result.failed, 0, "".join(told))
            self.assertGreater(result.attempted, 2)
            names = test.globs


if __name__ == "__main__":
    unittest.main()
