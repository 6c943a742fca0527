package larder_test

import (
	"math/rand"
	"slices"
	"testing"

	"larder/api"
	"larder/larder"
)

// lotTold, orderTold and stateTold are what a state tells, sound or not.
type lotTold struct {
	number, goods, expiry, place, free, held, shipped, scrapped uint64
	parents                                                     [][2]uint64
	got                                                         uint64 // without parents
}

type orderTold struct {
	number, goods uint64
	lines         [][2]uint64
}

type stateTold struct {
	today, comings uint64
	lots           []lotTold
	orders         []orderTold
	recalls        [][2]uint64
}

func (s stateTold) text() string {
	ns := []uint64{s.today, s.comings, uint64(len(s.lots))}
	for _, l := range s.lots {
		ns = append(ns, l.number, l.goods, l.expiry, l.place, l.free, l.held, l.shipped, l.scrapped)
		ns = append(ns, uint64(len(l.parents)))
		for _, p := range l.parents {
			ns = append(ns, p[0], p[1])
		}
		if len(l.parents) == 0 {
			ns = append(ns, l.got)
		}
	}
	ns = append(ns, uint64(len(s.orders)))
	for _, o := range s.orders {
		ns = append(ns, o.number, o.goods, uint64(len(o.lines)))
		for _, line := range o.lines {
			ns = append(ns, line[0], line[1])
		}
	}
	ns = append(ns, uint64(len(s.recalls)))
	for _, r := range s.recalls {
		ns = append(ns, r[0], r[1])
	}
	return text(api.State, ns...)
}

// taker takes numbers; short, if there were fewer than wanted.
type taker struct {
	ns    []uint64
	short bool
}

func (k *taker) one() uint64 {
	if len(k.ns) == 0 {
		k.short = true
		return 0
	}
	n := k.ns[0]
	k.ns = k.ns[1:]
	return n
}

// pairs takes as many pairs as it is told, as far as there are numbers.
func (k *taker) pairs() [][2]uint64 {
	var ps [][2]uint64
	for count := k.one(); count > 0 && !k.short; count-- {
		ps = append(ps, [2]uint64{k.one(), k.one()})
	}
	return ps
}

// readState reads a state, sound or not; false if its numbers are too few or
// too many.
func readState(told string) (s stateTold, ok bool) {
	k := &taker{ns: commandNumbers(told)}
	s.today, s.comings = k.one(), k.one()
	for count := k.one(); count > 0 && !k.short; count-- {
		l := lotTold{number: k.one(), goods: k.one(), expiry: k.one(), place: k.one(), free: k.one(), held: k.one(), shipped: k.one(), scrapped: k.one(), parents: k.pairs()}
		if len(l.parents) == 0 {
			l.got = k.one()
		}
		s.lots = append(s.lots, l)
	}
	for count := k.one(); count > 0 && !k.short; count-- {
		s.orders = append(s.orders, orderTold{number: k.one(), goods: k.one(), lines: k.pairs()})
	}
	s.recalls = k.pairs()
	return s, !k.short && len(k.ns) == 0
}

func (s stateTold) lot(number uint64) *lotTold {
	for i := range s.lots {
		if s.lots[i].number == number {
			return &s.lots[i]
		}
	}
	return nil
}

func idTold(n uint64) bool { return n >= 1 && n <= api.MaxId }

func (s stateTold) lotsAreSound() bool {
	var numbers, places []uint64
	for _, l := range s.lots {
		if !idTold(l.number) || !idTold(l.goods) || l.expiry > api.MaxDay || l.place < 1 || l.place > s.comings {
			return false
		}
		for _, count := range []uint64{l.free, l.held, l.shipped, l.scrapped, l.got} {
			if count > api.MaxCount {
				return false
			}
		}
		if slices.Contains(numbers, l.number) || slices.Contains(places, l.place) {
			return false
		}
		numbers, places = append(numbers, l.number), append(places, l.place)
	}
	return slices.IsSorted(numbers)
}

func (s stateTold) parentsAreSound() bool {
	for _, l := range s.lots {
		if len(l.parents) > 2 {
			return false
		}
		first, sum := uint64(api.MaxDay), uint64(0)
		for _, p := range l.parents {
			from := s.lot(p[0])
			if from == nil || from.goods != l.goods || from.place >= l.place || p[1] > api.MaxCount {
				return false
			}
			first, sum = min(first, from.expiry), sum+p[1]
		}
		if len(l.parents) > 0 && (l.expiry != first || sum < 1 || sum > api.MaxCount) {
			return false
		}
		if len(l.parents) == 2 && l.parents[0][0] >= l.parents[1][0] {
			return false
		}
	}
	return true
}

// countsAreSound wants all else to be: then no sum is too great.
func (s stateTold) countsAreSound() bool {
	got, others, held := map[uint64]uint64{}, map[uint64]uint64{}, map[uint64]uint64{}
	for _, l := range s.lots {
		got[l.number] += l.got
		others[l.number] += l.free + l.held + l.shipped + l.scrapped
		for _, p := range l.parents {
			got[l.number] += p[1]
			others[p[0]] += p[1]
		}
	}
	for _, o := range s.orders {
		for _, line := range o.lines {
			held[line[0]] += line[1]
		}
	}
	for _, l := range s.lots {
		if got[l.number] < 1 || got[l.number] != others[l.number] || held[l.number] != l.held {
			return false
		}
	}
	return true
}

func (s stateTold) ordersAreSound() bool {
	for i, o := range s.orders {
		if !idTold(o.number) || len(o.lines) == 0 || i > 0 && s.orders[i-1].number >= o.number {
			return false
		}
		for j, line := range o.lines {
			l := s.lot(line[0])
			if l == nil || l.goods != o.goods || line[1] < 1 || line[1] > api.MaxCount || j > 0 && o.lines[j-1][0] >= line[0] {
				return false
			}
		}
	}
	return len(s.orders) <= api.MaxOrders
}

func (s stateTold) recallsAreSound() bool {
	for i, r := range s.recalls {
		if s.lot(r[0]) == nil || !idTold(r[1]) {
			return false
		}
		if i > 0 && slices.Compare(s.recalls[i-1][:], r[:]) >= 0 {
			return false
		}
	}
	return len(s.recalls) <= api.MaxRecalls
}

// isSound says by the document's words whether a store is.
func (s stateTold) isSound() bool {
	return s.today <= api.MaxDay && s.comings == uint64(len(s.lots)) && s.comings <= api.MaxLots &&
		s.lotsAreSound() && s.parentsAreSound() && s.ordersAreSound() && s.recallsAreSound() && s.countsAreSound()
}

// soundStore has all that a store can have: lot 4 is made of 2 and 6, which
// came ahead; lot 5 of 4; lot 6 of 2.
func soundStore() stateTold {
	return stateTold{
		today: 10, comings: 5,
		lots: []lotTold{
			{number: 2, goods: 7, expiry: 20, place: 1, free: 1, held: 2, shipped: 3, scrapped: 4, got: 115},
			{number: 3, goods: 8, expiry: 9, place: 3, free: 5, got: 5},
			{number: 4, goods: 7, expiry: 20, place: 4, free: 4, held: 11, parents: [][2]uint64{{2, 5}, {6, 30}}},
			{number: 5, goods: 7, expiry: 20, place: 5, free: 20, parents: [][2]uint64{{4, 20}}},
			{number: 6, goods: 7, expiry: 20, place: 2, free: 70, parents: [][2]uint64{{2, 100}}},
		},
		orders: []orderTold{
			{number: 1, goods: 7, lines: [][2]uint64{{2, 1}, {4, 5}}},
			{number: 9, goods: 7, lines: [][2]uint64{{2, 1}, {4, 6}}},
		},
		recalls: [][2]uint64{{3, 5}, {4, 1}, {4, 2}},
	}
}

// oneLot has one lot, of which all is Free.
func oneLot() stateTold {
	return stateTold{comings: 1, lots: []lotTold{{number: 1, goods: 7, place: 1, free: 6, got: 6}}}
}

// twoKinds has lots of the goods 7 and 8, of other expiries, of which nothing
// was made.
func twoKinds() stateTold {
	return stateTold{comings: 3, lots: []lotTold{
		{number: 1, goods: 7, expiry: 30, place: 1, free: 6, got: 6},
		{number: 2, goods: 7, expiry: 20, place: 2, free: 6, got: 6},
		{number: 3, goods: 8, expiry: 30, place: 3, free: 6, got: 6},
	}}
}

// with answers a store that was changed.
func with(s stateTold, change func(*stateTold)) stateTold {
	change(&s)
	return s
}

// made puts behind the lots one that is made of others and has all Free.
func made(s stateTold, expiry uint64, parents ...[2]uint64) stateTold {
	l := lotTold{number: 9, goods: 7, expiry: expiry, place: s.comings + 1, parents: parents}
	for _, p := range parents {
		l.free += p[1]
		if from := s.lot(p[0]); from != nil {
			from.free -= p[1]
		}
	}
	s.comings++
	s.lots = append(s.lots, l)
	return s
}

// many answers a store of so many lots, orders of the first lot, and recalls
// of it.
func many(lots, orders, recalls uint64) stateTold {
	s := stateTold{comings: lots}
	for i := range lots {
		s.lots = append(s.lots, lotTold{number: i + 1, goods: 7, place: lots - i, free: 20, got: 20})
	}
	for i := range orders {
		s.lots[0].free--
		s.lots[0].held++
		s.orders = append(s.orders, orderTold{number: i + 1, goods: 7, lines: [][2]uint64{{1, 1}}})
	}
	for i := range recalls {
		s.recalls = append(s.recalls, [2]uint64{1, i + 1})
	}
	return s
}

// lineOfEach has one order, that holds all of each of as many lots as may be.
func lineOfEach() stateTold {
	s := many(api.MaxLots, 0, 0)
	s.orders = []orderTold{{number: 1, goods: 7}}
	for i := range s.lots {
		s.lots[i].free, s.lots[i].held = 0, 20
		s.orders[0].lines = append(s.orders[0].lines, [2]uint64{s.lots[i].number, 20})
	}
	return s
}

// isTaken says whether Open takes a state, and holds what it makes of it
// against the state.
func isTaken(t *testing.T, name, told string) bool {
	t.Helper()
	log := framed(told)
	l, took := larder.Open(log)
	if took == 0 {
		logged(t, "P11, "+name, l, "")
		if seen(l) != seen(larder.New()) {
			t.Errorf("P11: %s: a state that is not taken leaves a trace", name)
		}
		return false
	}
	if took != len(log) {
		t.Errorf("P11: %s: of %d bytes %d are taken", name, len(log), took)
	}
	logged(t, "P11, "+name, l, log)
	l.Compact()
	logged(t, "P10, "+name, l, log)
	return true
}

func TestP11SoundStores(t *testing.T) {
	const most = api.MaxId
	for name, s := range map[string]stateTold{
		"empty":          {},
		"all there is":   soundStore(),
		"one lot":        oneLot(),
		"two kinds":      twoKinds(),
		"the last day":   {today: api.MaxDay},
		"full":           many(api.MaxLots, api.MaxOrders, api.MaxRecalls),
		"a line of each": lineOfEach(),
		"made of one":    made(twoKinds(), 30, [2]uint64{1, 1}),
		"made of all":    made(twoKinds(), 20, [2]uint64{2, 6}),
		"made of two":    made(twoKinds(), 20, [2]uint64{1, 1}, [2]uint64{2, 1}),
		"first of two":   made(twoKinds(), 20, [2]uint64{1, 1}, [2]uint64{2, 0}),
		"second of two":  made(twoKinds(), 20, [2]uint64{1, 0}, [2]uint64{2, 1}),
		"expired":        with(oneLot(), func(s *stateTold) { s.today = 9 }),
		"all scrapped":   with(oneLot(), func(s *stateTold) { s.lots[0].free, s.lots[0].scrapped = 0, 6 }),
		"all shipped":    with(oneLot(), func(s *stateTold) { s.lots[0].free, s.lots[0].shipped = 0, 6 }),
		"greatest lot":   {comings: 1, lots: []lotTold{{number: most, goods: most, expiry: api.MaxDay, place: 1, free: api.MaxCount, got: api.MaxCount}}},
		"greatest order": {comings: 1, lots: []lotTold{{number: 1, goods: 7, place: 1, held: api.MaxCount, got: api.MaxCount}}, orders: []orderTold{{number: most, goods: 7, lines: [][2]uint64{{1, api.MaxCount}}}}},
		"greatest mark":  with(oneLot(), func(s *stateTold) { s.recalls = [][2]uint64{{1, 1}, {1, most}} }),
		"greatest merge": {comings: 3, lots: []lotTold{
			{number: 1, goods: 7, place: 1, got: api.MaxCount - 1}, {number: 2, goods: 7, place: 2, got: 1},
			{number: 3, goods: 7, place: 3, free: api.MaxCount, parents: [][2]uint64{{1, api.MaxCount - 1}, {2, 1}}}}},
		"a parent behind by number": {comings: 2, lots: []lotTold{
			{number: 1, goods: 7, place: 2, free: 1, parents: [][2]uint64{{2, 1}}}, {number: 2, goods: 7, place: 1, got: 1}}},
	} {
		if !s.isSound() {
			t.Errorf("the tests' own words do not find the store '%s' sound", name)
		}
		if !isTaken(t, name, s.text()) {
			t.Errorf("P11: the sound store '%s' is not taken", name)
		}
	}
}

// Of each, one thing is not as it should be.
func TestP11StoresThatAreNotSound(t *testing.T) {
	const no = api.MaxId + 1
	one := func(change func(l *lotTold)) stateTold {
		return with(oneLot(), func(s *stateTold) { change(&s.lots[0]) })
	}
	all := func(change func(s *stateTold)) stateTold { return with(soundStore(), change) }
	for name, s := range map[string]stateTold{
		"today":                    {today: api.MaxDay + 1},
		"comings without lots":     {comings: 1},
		"fewer comings":            all(func(s *stateTold) { s.comings = 4 }),
		"more comings":             all(func(s *stateTold) { s.comings = 6 }),
		"more comings and a place": with(oneLot(), func(s *stateTold) { s.comings, s.lots[0].place = 2, 2 }),
		"31 lots":                  many(api.MaxLots+1, 0, 0),
		"lot 0":                    one(func(l *lotTold) { l.number = 0 }),
		"too great a lot":          one(func(l *lotTold) { l.number = no }),
		"goods 0":                  one(func(l *lotTold) { l.goods = 0 }),
		"too great goods":          one(func(l *lotTold) { l.goods = no }),
		"expiry":                   one(func(l *lotTold) { l.expiry = api.MaxDay + 1 }),
		"place 0":                  one(func(l *lotTold) { l.place = 0 }),
		"place behind comings":     one(func(l *lotTold) { l.place = 2 }),
		"huge place":               one(func(l *lotTold) { l.place = 1<<63 - 1 }),
		"a lot twice":              all(func(s *stateTold) { s.lots[1].number = 2 }),
		"lots that fall":           all(func(s *stateTold) { s.lots[0], s.lots[1] = s.lots[1], s.lots[0] }),
		"a place twice":            all(func(s *stateTold) { s.lots[1].place = 2 }),
		"Got 0":                    one(func(l *lotTold) { l.got, l.free = 0, 0 }),
		"Got less":                 one(func(l *lotTold) { l.got = 5 }),
		"Got more":                 one(func(l *lotTold) { l.got = 7 }),
		"too great Got":            one(func(l *lotTold) { l.got, l.free, l.scrapped = api.MaxCount+1, api.MaxCount, 1 }),
		"too great Free":           one(func(l *lotTold) { l.got, l.free = api.MaxCount+1, api.MaxCount+1 }),
		"too great Shipped":        one(func(l *lotTold) { l.got, l.free, l.shipped = api.MaxCount+1, 0, api.MaxCount+1 }),
		"too great Scrapped":       one(func(l *lotTold) { l.got, l.free, l.scrapped = api.MaxCount+1, 0, api.MaxCount+1 }),
		"counts that wrap round":   one(func(l *lotTold) { l.free, l.shipped, l.scrapped = 1<<63-1, 1<<63-1, 8 }),
		"more Free":                all(func(s *stateTold) { s.lots[0].free++ }),
		"more Shipped":             all(func(s *stateTold) { s.lots[0].shipped++ }),
		"more Scrapped":            all(func(s *stateTold) { s.lots[0].scrapped++ }),
		"less Free of one made":    all(func(s *stateTold) { s.lots[4].free-- }),
		"no such parent":           made(twoKinds(), 30, [2]uint64{4, 1}),
		"no such second parent":    made(twoKinds(), 30, [2]uint64{1, 1}, [2]uint64{4, 1}),
		"none, the last expiry":    made(twoKinds(), api.MaxDay, [2]uint64{4, 1}),
		"its own parent":           with(made(twoKinds(), 30, [2]uint64{9, 1}), func(s *stateTold) { s.lots[3].free = 0 }),
		"parent 0":                 made(twoKinds(), 30, [2]uint64{0, 1}),
		"a parent of other goods":  made(twoKinds(), 30, [2]uint64{3, 1}),
		"one of other goods":       made(twoKinds(), 30, [2]uint64{1, 1}, [2]uint64{3, 1}),
		"three parents":            with(made(twoKinds(), 20, [2]uint64{1, 1}, [2]uint64{2, 1}, [2]uint64{3, 1}), func(s *stateTold) { s.lots[2].goods = 7 }),
		"a parent twice":           made(twoKinds(), 30, [2]uint64{1, 1}, [2]uint64{1, 1}),
		"parents that fall":        made(twoKinds(), 20, [2]uint64{2, 1}, [2]uint64{1, 1}),
		"less than its expiry":     made(twoKinds(), 29, [2]uint64{1, 1}),
		"more than its expiry":     made(twoKinds(), 31, [2]uint64{1, 1}),
		"the later expiry":         made(twoKinds(), 30, [2]uint64{1, 1}, [2]uint64{2, 1}),
		"an expiry of neither":     made(twoKinds(), 19, [2]uint64{1, 1}, [2]uint64{2, 1}),
		"nothing of one parent":    made(twoKinds(), 30, [2]uint64{1, 0}),
		"nothing of two parents":   made(twoKinds(), 20, [2]uint64{1, 0}, [2]uint64{2, 0}),
		"a parent gave too much": {comings: 2, lots: []lotTold{
			{number: 1, goods: 7, place: 1, got: api.MaxCount},
			{number: 2, goods: 7, place: 2, free: api.MaxCount + 1, parents: [][2]uint64{{1, api.MaxCount + 1}}}}},
		"too great a merge": {comings: 3, lots: []lotTold{
			{number: 1, goods: 7, place: 1, got: api.MaxCount}, {number: 2, goods: 7, place: 2, got: 1},
			{number: 3, goods: 7, place: 3, free: api.MaxCount, scrapped: 1, parents: [][2]uint64{{1, api.MaxCount}, {2, 1}}}}},
		"a merge that wraps round": {comings: 3, lots: []lotTold{
			{number: 1, goods: 7, place: 1, free: 1, got: 1}, {number: 2, goods: 7, place: 2, free: 1, got: 1},
			{number: 3, goods: 7, place: 3, free: 1, parents: [][2]uint64{{1, 1<<63 - 1}, {2, 1<<63 - 1}}}}},
		"a parent that came later": {comings: 2, lots: []lotTold{
			{number: 1, goods: 7, place: 2, got: 1}, {number: 2, goods: 7, place: 1, free: 1, parents: [][2]uint64{{1, 1}}}}},
		"parents of one another": {comings: 2, lots: []lotTold{
			{number: 1, goods: 7, place: 1, parents: [][2]uint64{{2, 1}}}, {number: 2, goods: 7, place: 2, parents: [][2]uint64{{1, 1}}}}},
		"gave more than it had": {comings: 2, lots: []lotTold{
			{number: 1, goods: 7, place: 1, got: 1}, {number: 2, goods: 7, place: 2, free: 2, parents: [][2]uint64{{1, 2}}}}},
		"11 orders":               many(1, api.MaxOrders+1, 0),
		"11 recalls":              many(1, 0, api.MaxRecalls+1),
		"order 0":                 all(func(s *stateTold) { s.orders[0].number = 0 }),
		"too great an order":      all(func(s *stateTold) { s.orders[1].number = no }),
		"an order twice":          all(func(s *stateTold) { s.orders[1].number = 1 }),
		"orders that fall":        all(func(s *stateTold) { s.orders[0], s.orders[1] = s.orders[1], s.orders[0] }),
		"an order of other goods": all(func(s *stateTold) { s.orders[0].goods = 8 }),
		"an order of goods 0":     all(func(s *stateTold) { s.orders[0].goods = 0 }),
		"an order without lines":  all(func(s *stateTold) { s.orders = append(s.orders, orderTold{number: 10, goods: 7}) }),
		"a line of no lot":        all(func(s *stateTold) { s.orders[0].lines = append(s.orders[0].lines, [2]uint64{99, 1}) }),
		"a line of other goods": all(func(s *stateTold) {
			s.lots[1].free, s.lots[1].held = 4, 1
			s.orders[0].lines = [][2]uint64{{2, 1}, {3, 1}, {4, 5}}
		}),
		"a line of nothing":    all(func(s *stateTold) { s.orders[0].lines = append(s.orders[0].lines, [2]uint64{5, 0}) }),
		"a line twice":         all(func(s *stateTold) { s.orders[0].lines = [][2]uint64{{2, 1}, {4, 2}, {4, 3}} }),
		"lines that fall":      all(func(s *stateTold) { s.orders[0].lines = [][2]uint64{{4, 5}, {2, 1}} }),
		"lines hold more":      all(func(s *stateTold) { s.orders[0].lines[1][1]++ }),
		"lines hold less":      all(func(s *stateTold) { s.orders[0].lines[1][1]-- }),
		"Held without a line":  one(func(l *lotTold) { l.free, l.held = 5, 1 }),
		"a line without Held":  all(func(s *stateTold) { s.orders[0].lines = append(s.orders[0].lines, [2]uint64{5, 1}) }),
		"too great Held":       {comings: 1, lots: []lotTold{{number: 1, goods: 7, place: 1, held: api.MaxCount + 1, got: api.MaxCount + 1}}, orders: []orderTold{{number: 1, goods: 7, lines: [][2]uint64{{1, api.MaxCount + 1}}}}},
		"lines that wrap":      all(func(s *stateTold) { s.orders[0].lines[0][1], s.orders[1].lines[0][1] = 1<<63-1, 1<<63-1 }),
		"a recall of no lot":   all(func(s *stateTold) { s.recalls = [][2]uint64{{1, 1}} }),
		"a recall of lot 0":    all(func(s *stateTold) { s.recalls = [][2]uint64{{0, 1}} }),
		"mark 0":               all(func(s *stateTold) { s.recalls = [][2]uint64{{4, 0}} }),
		"too great a mark":     all(func(s *stateTold) { s.recalls = [][2]uint64{{4, no}} }),
		"a recall twice":       all(func(s *stateTold) { s.recalls = [][2]uint64{{4, 1}, {4, 1}} }),
		"marks that fall":      all(func(s *stateTold) { s.recalls = [][2]uint64{{4, 2}, {4, 1}} }),
		"recalls that fall":    all(func(s *stateTold) { s.recalls = [][2]uint64{{4, 1}, {3, 5}} }),
		"recalls by mark only": all(func(s *stateTold) { s.recalls = [][2]uint64{{4, 1}, {3, 2}} }),
	} {
		if s.isSound() {
			t.Errorf("the tests' own words find the store '%s' sound", name)
		}
		if isTaken(t, name, s.text()) {
			t.Errorf("P11: a store that is not sound is taken: '%s'", name)
		}
	}
}

func TestP11BytesThatAreNoState(t *testing.T) {
	whole := soundStore().text()
	for cut := range whole {
		if isTaken(t, "cut", whole[:cut]) {
			t.Errorf("P11: %d bytes of a state of %d are taken", cut, len(whole))
		}
	}
	for last := range 256 {
		if isTaken(t, "grown", whole+string([]byte{byte(last)})) {
			t.Errorf("P11: a state with the byte %d behind is taken", last)
		}
	}
	// A number in a longer form than it needs, wherever it stands.
	for i := 1; i < len(whole); i++ {
		if whole[i] >= 128 {
			continue
		}
		long := whole[:i] + string([]byte{whole[i] | 128, 0}) + whole[i+1:]
		if isTaken(t, "long", long) {
			t.Errorf("P11: a state with a long number at byte %d is taken", i)
		}
	}
}

// drawnNumber is one that often stands in states, or just beyond what may.
func drawnNumber(r *rand.Rand, ns []uint64) uint64 {
	switch n := ns[r.Intn(len(ns))]; r.Intn(6) {
	case 0:
		return n
	case 1:
		return n + 1
	case 2:
		return max(n, 1) - 1
	case 3:
		return uint64(r.Intn(12))
	case 4:
		return []uint64{0, 1, api.MaxId, beyond, 1 << 62, 1<<63 - 1}[r.Intn(6)]
	}
	return uint64(r.Intn(200))
}

// spoilt changes some numbers of a state.
func spoilt(r *rand.Rand, told string) string {
	ns := commandNumbers(told)
	for range 1 + r.Intn(3) {
		i := r.Intn(len(ns))
		switch r.Intn(8) {
		case 0:
			ns = slices.Delete(ns, i, i+1)
		case 1:
			ns = slices.Insert(ns, i, drawnNumber(r, ns))
		case 2:
			j := r.Intn(len(ns))
			ns[i], ns[j] = ns[j], ns[i]
		case 3:
			// What is moved between two counts may leave a lot sound.
			j := min(i+1+r.Intn(3), len(ns)-1)
			if ns[i] > 0 {
				ns[i], ns[j] = ns[i]-1, ns[j]+1
			}
		default:
			ns[i] = drawnNumber(r, ns)
		}
	}
	return text(api.State, ns...)
}

// Open takes just those states that are sound by the document's words.
func TestP11SpoiltStates(t *testing.T) {
	r := rand.New(rand.NewSource(7))
	taken, refused := 0, 0
	for range 60 {
		told := stateOf(t, walked(t, r, 60).larder)
		for range 150 {
			bad := spoilt(r, told)
			s, whole := readState(bad)
			want := whole && s.isSound()
			log := framed(bad)
			l, took := larder.Open(log)
			if (took == len(log)) != want || took != len(l.Log()) {
				t.Fatalf("P11: of the state %d, of %d bytes framed, %d are taken; sound: %v", commandNumbers(bad), len(log), took, want)
			}
			if want {
				taken++
				l.Compact()
				logged(t, "P10", l, log)
			} else {
				refused++
			}
		}
	}
	if taken < 500 || refused < 500 {
		t.Errorf("the states drawn were sound %d times, and %d times not", taken, refused)
	}
}

// The numbers a test writes are those that it reads again.
func TestStatesThereAndBack(t *testing.T) {
	told := soundStore().text()
	s, ok := readState(told)
	if !ok || s.text() != told || s.lots[2].number != 4 || s.orders[1].number != 9 {
		t.Errorf("of %x came %v, %v", told, s, ok)
	}
}
