package larder_test

import (
	"cmp"
	"encoding/binary"
	"maps"
	"math/rand"
	"slices"
	"testing"

	"larder/api"
	"larder/larder"
)

// anyCommand makes a command, mostly of lots that are there.
func anyCommand(r *rand.Rand, there []uint64) string {
	fresh := func() uint64 { return uint64(r.Intn(60)) }
	few := func() uint64 { return uint64(r.Intn(12)) }
	goods := func() uint64 { return 1 + uint64(r.Intn(2)) }
	mark := func() uint64 { return uint64(7+r.Intn(20)) / 8 }
	lot := func() uint64 {
		if len(there) == 0 || r.Intn(12) == 0 {
			return fresh()
		}
		return there[r.Intn(len(there))]
	}
	switch r.Intn(18) {
	case 0:
		return text(api.Day, uint64(r.Intn(4)))
	case 1, 2:
		return text(api.Receive, fresh(), goods(), 10*few(), few())
	case 3:
		return text(api.Split, lot(), fresh(), few())
	case 4:
		return text(api.Merge, lot(), lot(), fresh())
	case 5:
		return text(api.Scrap, lot(), few())
	case 6:
		return text(api.Look, lot())
	case 7:
		return text(api.Cancel, few())
	case 8:
		return text(api.Ship, few())
	case 9:
		return text(api.Supply, goods(), few())
	case 10:
		return text(api.Recall, lot(), mark())
	case 11, 12, 13:
		return text(api.Release, lot(), mark())
	}
	return text(api.Order, 1+few(), goods(), 7*few(), few()/4, uint64(r.Intn(5)))
}

// looks is what Look tells of the lots 1 to 60 that are there.
func looks(t *testing.T, l *larder.Larder) map[uint64][]uint64 {
	t.Helper()
	found := map[uint64][]uint64{}
	for lot := uint64(1); lot <= 60; lot++ {
		if reply := l.Handle(text(api.Look, lot)); reply[0] == byte(api.OK) {
			found[lot] = numbers(t, reply)
		}
	}
	return found
}

// balanced holds Got of each lot against the sum of its other counts, and the
// places against 1, 2 and so on.
func balanced(t *testing.T, found map[uint64][]uint64) {
	t.Helper()
	var places []uint64
	for lot, n := range found {
		if n[3] != n[4]+n[5]+n[6]+n[7]+n[8] {
			t.Fatalf("P5: the counts of lot %d do not add up: %d", lot, n)
		}
		places = append(places, n[2])
	}
	slices.Sort(places)
	for i, place := range places {
		if place != uint64(i)+1 {
			t.Fatalf("P5: the places are %d", places)
		}
	}
}

// serving reckons from what Look tells which lots can serve, rising.
func serving(found map[uint64][]uint64, goods, from uint64) []uint64 {
	var lots []uint64
	for _, lot := range slices.Sorted(maps.Keys(found)) {
		if n := found[lot]; n[0] == goods && n[1] >= from && n[4] > 0 && n[9] == 0 {
			lots = append(lots, lot)
		}
	}
	return lots
}

// supplyOf reckons Supply from what Look tells.
func supplyOf(found map[uint64][]uint64, goods, from uint64) []uint64 {
	lots := serving(found, goods, from)
	free := uint64(0)
	for _, lot := range lots {
		free += found[lot][4]
	}
	return []uint64{uint64(len(lots)), free}
}

// book is what a walk knows by the replies alone.
type book struct {
	today  uint64
	orders map[uint64][]uint64 // lots and how many, in turn
	// Of a lot, how many have been shipped.
	shipped map[uint64]uint64
	// Of a lot, of which lots it was made.
	parents map[uint64][]uint64
	recalls map[[2]uint64]int // by lot and mark
}

func newBook() *book {
	return &book{
		orders:  map[uint64][]uint64{},
		shipped: map[uint64]uint64{},
		parents: map[uint64][]uint64{},
		recalls: map[[2]uint64]int{},
	}
}

// comesOf goes up from a lot to all of which it was made.
func (b *book) comesOf(lot, of uint64) bool {
	seen := map[uint64]int{lot: 1}
	for next := []uint64{lot}; len(next) > 0; {
		up := next[0]
		next = next[1:]
		if up == of {
			return true
		}
		for _, parent := range b.parents[up] {
			if seen[parent] == 0 {
				next = append(next, parent)
			}
			seen[parent]++
		}
	}
	return false
}

func (b *book) isRecalled(lot uint64) bool {
	for key := range b.recalls {
		if b.comesOf(lot, key[0]) {
			return true
		}
	}
	return false
}

// recallOf reckons the reply to a recall from what Look tells.
func (b *book) recallOf(found map[uint64][]uint64, lot, mark uint64) string {
	if lot == 0 || mark == 0 {
		return string([]byte{byte(api.ErrNumber)})
	}
	if found[lot] == nil {
		return string([]byte{byte(api.ErrLot)})
	}
	if b.recalls[[2]uint64{lot, mark}] > 0 {
		return string([]byte{byte(api.ErrTwice)})
	}
	if len(b.recalls) == api.MaxRecalls {
		return string([]byte{byte(api.ErrFull)})
	}
	var held []uint64
	for _, each := range slices.Sorted(maps.Keys(found)) {
		if found[each][5] > 0 && b.comesOf(each, lot) {
			held = append(held, each, found[each][5])
		}
	}
	return text(byte(api.OK), append([]uint64{uint64(len(held) / 2)}, held...)...)
}

// releaseOf reckons the reply to a release.
func (b *book) releaseOf(lot, mark uint64) string {
	if lot == 0 || mark == 0 {
		return string([]byte{byte(api.ErrNumber)})
	}
	if b.recalls[[2]uint64{lot, mark}] == 0 {
		return string([]byte{byte(api.ErrRecall)})
	}
	return string([]byte{byte(api.OK)})
}

// orderOf reckons the reply to an order from what Look tells.
func (b *book) orderOf(found map[uint64][]uint64, order, goods, count, gate, way uint64) string {
	if count == 0 || way > 3 {
		return string([]byte{byte(api.ErrNumber)})
	}
	if _, ok := b.orders[order]; ok {
		return string([]byte{byte(api.ErrTwice)})
	}
	if len(b.orders) == api.MaxOrders {
		return string([]byte{byte(api.ErrFull)})
	}
	lots := serving(found, goods, b.today+gate+1)
	slices.SortStableFunc(lots, func(x, y uint64) int {
		if way >= 2 {
			return cmp.Compare(found[x][2], found[y][2])
		}
		return cmp.Compare(found[x][1], found[y][1])
	})
	var lines []uint64
	for _, lot := range lots {
		if gives := min(count, found[lot][4]); gives > 0 {
			lines = append(lines, lot, gives)
			count -= gives
		}
	}
	if len(lines) == 0 || count > 0 && way%2 == 1 {
		return string([]byte{byte(api.ErrShort)})
	}
	return text(byte(api.OK), append([]uint64{uint64(len(lines) / 2)}, lines...)...)
}

// endOf reckons the reply to Cancel and Ship.
func (b *book) endOf(order uint64) string {
	if order == 0 {
		return string([]byte{byte(api.ErrNumber)})
	}
	if _, ok := b.orders[order]; !ok {
		return string([]byte{byte(api.ErrOrder)})
	}
	return string([]byte{byte(api.OK)})
}

// wanted reckons a reply; ok is false for commands of which the book knows
// nothing.
func (b *book) wanted(found map[uint64][]uint64, command string) (reply string, ok bool) {
	ns := commandNumbers(command)
	switch command[0] {
	case api.Order:
		return b.orderOf(found, ns[0], ns[1], ns[2], ns[3], ns[4]), true
	case api.Cancel, api.Ship:
		return b.endOf(ns[0]), true
	case api.Recall:
		return b.recallOf(found, ns[0], ns[1]), true
	case api.Release:
		return b.releaseOf(ns[0], ns[1]), true
	}
	return "", false
}

// note writes down a command that answered OK.
func (b *book) note(command string, replied []uint64) {
	ns := commandNumbers(command)
	switch command[0] {
	case api.Day:
		b.today = ns[0]
	case api.Order:
		b.orders[ns[0]] = replied[1:]
	case api.Cancel:
		delete(b.orders, ns[0])
	case api.Ship:
		lines := b.orders[ns[0]]
		for i := 0; i < len(lines); i += 2 {
			b.shipped[lines[i]] += lines[i+1]
		}
		delete(b.orders, ns[0])
	case api.Split:
		b.parents[ns[1]] = ns[:1]
	case api.Merge:
		b.parents[ns[2]] = ns[:2]
	case api.Recall:
		b.recalls[[2]uint64{ns[0], ns[1]}] = 1
	case api.Release:
		delete(b.recalls, [2]uint64{ns[0], ns[1]})
	}
}

func commandNumbers(command string) []uint64 {
	var ns []uint64
	for rest := []byte(command[1:]); len(rest) > 0; {
		n, size := binary.Uvarint(rest)
		ns = append(ns, n)
		rest = rest[size:]
	}
	return ns
}

// agrees holds what Look tells of Held and Shipped, and of recalls, against the
// book.
func (b *book) agrees(t *testing.T, found map[uint64][]uint64) {
	t.Helper()
	held := map[uint64]uint64{}
	for _, lines := range b.orders {
		for i := 0; i < len(lines); i += 2 {
			held[lines[i]] += lines[i+1]
		}
	}
	for lot, n := range found {
		if n[5] != held[lot] || n[6] != b.shipped[lot] {
			t.Fatalf("P7: of lot %d there are Held %d and Shipped %d, want %d and %d", lot, n[5], n[6], held[lot], b.shipped[lot])
		}
		if got, want := n[9] == 1, b.isRecalled(lot); got != want || n[9] > 1 {
			t.Fatalf("P8: Look %d ends with %d; recalled: %v", lot, n[9], want)
		}
	}
}

// Whatever is done, counts add up, Supply, Order and Recall agree with Look,
// orders hold what was told, all that comes of recalled lots is recalled, and
// an error or a question changes nothing.
func TestWalk(t *testing.T) {
	for seed := range int64(60) {
		r := rand.New(rand.NewSource(seed))
		l := larder.New()
		b := newBook()
		for range 250 {
			before, found := seen(l), looks(t, l)
			command := anyCommand(r, slices.Sorted(maps.Keys(found)))
			want, known := b.wanted(found, command)
			reply := l.Handle(command)
			if known && reply != want {
				t.Fatalf("P5, P6: Handle(%x) = %x, want %x", command, reply, want)
			}
			ok := reply[0] == byte(api.OK)
			if ok {
				b.note(command, numbers(t, reply))
			}
			if (!ok || command[0] >= api.Look) && seen(l) != before {
				t.Fatalf("P1: Handle(%x) = %x changed the store", command, reply)
			}
			found = looks(t, l)
			balanced(t, found)
			b.agrees(t, found)
			goods, gate := 1+uint64(r.Intn(2)), uint64(r.Intn(12))
			supply, reckoned := numbers(t, l.Handle(text(api.Supply, goods, gate))), supplyOf(found, goods, b.today+gate+1)
			if !slices.Equal(supply, reckoned) {
				t.Fatalf("P5: Supply %d, %d = %d, want %d", goods, gate, supply, reckoned)
			}
		}
	}
}
