package larder_test

import (
	"cmp"
	"encoding/binary"
	"maps"
	"math/rand"
	"slices"
	"testing"

	"larder/api"
	"larder/larder"
)

// anyCommand makes a command of those that are built, mostly of lots that may
// be there.
func anyCommand(r *rand.Rand) string {
	lot := func() uint64 { return uint64(r.Intn(33)) }
	few := func() uint64 { return uint64(r.Intn(12)) }
	goods := func() uint64 { return 1 + uint64(r.Intn(2)) }
	switch r.Intn(12) {
	case 0:
		return text(api.Day, uint64(r.Intn(4)))
	case 1:
		return text(api.Receive, lot(), goods(), 10*few(), few())
	case 2:
		return text(api.Split, lot(), lot(), few())
	case 3:
		return text(api.Merge, lot(), lot(), lot())
	case 4:
		return text(api.Scrap, lot(), few())
	case 5:
		return text(api.Look, lot())
	case 6:
		return text(api.Cancel, few())
	case 7:
		return text(api.Ship, few())
	case 8:
		return text(api.Supply, goods(), few())
	}
	return text(api.Order, 1+few(), goods(), 7*few(), few()/4, uint64(r.Intn(5)))
}

// looks is what Look tells of the lots 1 to 40 that are there.
func looks(t *testing.T, l *larder.Larder) map[uint64][]uint64 {
	t.Helper()
	found := map[uint64][]uint64{}
	for lot := uint64(1); lot <= 40; lot++ {
		if reply := l.Handle(text(api.Look, lot)); reply[0] == byte(api.OK) {
			found[lot] = numbers(t, reply)
		}
	}
	return found
}

// balanced holds Got of each lot against the sum of its other counts, and the
// places against 1, 2 and so on.
func balanced(t *testing.T, found map[uint64][]uint64) {
	t.Helper()
	var places []uint64
	for lot, n := range found {
		if n[3] != n[4]+n[5]+n[6]+n[7]+n[8] {
			t.Fatalf("P5: the counts of lot %d do not add up: %d", lot, n)
		}
		places = append(places, n[2])
	}
	slices.Sort(places)
	for i, place := range places {
		if place != uint64(i)+1 {
			t.Fatalf("P5: the places are %d", places)
		}
	}
}

// serving reckons from what Look tells which lots can serve, rising.
func serving(found map[uint64][]uint64, goods, from uint64) []uint64 {
	var lots []uint64
	for _, lot := range slices.Sorted(maps.Keys(found)) {
		if n := found[lot]; n[0] == goods && n[1] >= from && n[4] > 0 && n[9] == 0 {
			lots = append(lots, lot)
		}
	}
	return lots
}

// supplyOf reckons Supply from what Look tells.
func supplyOf(found map[uint64][]uint64, goods, from uint64) []uint64 {
	lots := serving(found, goods, from)
	free := uint64(0)
	for _, lot := range lots {
		free += found[lot][4]
	}
	return []uint64{uint64(len(lots)), free}
}

// book is what a walk knows by the replies alone.
type book struct {
	today  uint64
	orders map[uint64][]uint64 // lots and how many, in turn
	// Of a lot, how many have been shipped.
	shipped map[uint64]uint64
}

// orderOf reckons the reply to an order from what Look tells.
func (b *book) orderOf(found map[uint64][]uint64, order, goods, count, gate, way uint64) string {
	if count == 0 || way > 3 {
		return string([]byte{byte(api.ErrNumber)})
	}
	if _, ok := b.orders[order]; ok {
		return string([]byte{byte(api.ErrTwice)})
	}
	if len(b.orders) == api.MaxOrders {
		return string([]byte{byte(api.ErrFull)})
	}
	lots := serving(found, goods, b.today+gate+1)
	slices.SortStableFunc(lots, func(x, y uint64) int {
		if way >= 2 {
			return cmp.Compare(found[x][2], found[y][2])
		}
		return cmp.Compare(found[x][1], found[y][1])
	})
	var lines []uint64
	for _, lot := range lots {
		if gives := min(count, found[lot][4]); gives > 0 {
			lines = append(lines, lot, gives)
			count -= gives
		}
	}
	if len(lines) == 0 || count > 0 && way%2 == 1 {
		return string([]byte{byte(api.ErrShort)})
	}
	return text(byte(api.OK), append([]uint64{uint64(len(lines) / 2)}, lines...)...)
}

// endOf reckons the reply to Cancel and Ship.
func (b *book) endOf(order uint64) string {
	if order == 0 {
		return string([]byte{byte(api.ErrNumber)})
	}
	if _, ok := b.orders[order]; !ok {
		return string([]byte{byte(api.ErrOrder)})
	}
	return string([]byte{byte(api.OK)})
}

// wanted reckons a reply; ok is false for commands of which the book knows
// nothing.
func (b *book) wanted(found map[uint64][]uint64, command string) (reply string, ok bool) {
	ns := commandNumbers(command)
	switch command[0] {
	case api.Order:
		return b.orderOf(found, ns[0], ns[1], ns[2], ns[3], ns[4]), true
	case api.Cancel, api.Ship:
		return b.endOf(ns[0]), true
	}
	return "", false
}

// note writes down a command that answered OK.
func (b *book) note(command string, replied []uint64) {
	ns := commandNumbers(command)
	switch command[0] {
	case api.Day:
		b.today = ns[0]
	case api.Order:
		b.orders[ns[0]] = replied[1:]
	case api.Cancel:
		delete(b.orders, ns[0])
	case api.Ship:
		lines := b.orders[ns[0]]
		for i := 0; i < len(lines); i += 2 {
			b.shipped[lines[i]] += lines[i+1]
		}
		delete(b.orders, ns[0])
	}
}

func commandNumbers(command string) []uint64 {
	var ns []uint64
	for rest := []byte(command[1:]); len(rest) > 0; {
		n, size := binary.Uvarint(rest)
		ns = append(ns, n)
		rest = rest[size:]
	}
	return ns
}

// agrees holds what Look tells of Held and Shipped against the book.
func (b *book) agrees(t *testing.T, found map[uint64][]uint64) {
	t.Helper()
	held := map[uint64]uint64{}
	for _, lines := range b.orders {
		for i := 0; i < len(lines); i += 2 {
			held[lines[i]] += lines[i+1]
		}
	}
	for lot, n := range found {
		if n[5] != held[lot] || n[6] != b.shipped[lot] {
			t.Fatalf("P7: of lot %d there are Held %d and Shipped %d, want %d and %d", lot, n[5], n[6], held[lot], b.shipped[lot])
		}
	}
}

// Whatever is done, counts add up, Supply and Order agree with Look, orders
// hold what was told, and an error or a question changes nothing.
func TestWalk(t *testing.T) {
	for seed := range int64(60) {
		r := rand.New(rand.NewSource(seed))
		l := larder.New()
		b := &book{orders: map[uint64][]uint64{}, shipped: map[uint64]uint64{}}
		for range 250 {
			before, command := seen(l), anyCommand(r)
			want, known := b.wanted(looks(t, l), command)
			reply := l.Handle(command)
			if known && reply != want {
				t.Fatalf("P6: Handle(%x) = %x, want %x", command, reply, want)
			}
			ok := reply[0] == byte(api.OK)
			if ok {
				b.note(command, numbers(t, reply))
			}
			if (!ok || command[0] >= api.Look) && seen(l) != before {
				t.Fatalf("P1: Handle(%x) = %x changed the store", command, reply)
			}
			found := looks(t, l)
			balanced(t, found)
			b.agrees(t, found)
			goods, gate := 1+uint64(r.Intn(2)), uint64(r.Intn(12))
			supply, reckoned := numbers(t, l.Handle(text(api.Supply, goods, gate))), supplyOf(found, goods, b.today+gate+1)
			if !slices.Equal(supply, reckoned) {
				t.Fatalf("P5: Supply %d, %d = %d, want %d", goods, gate, supply, reckoned)
			}
		}
	}
}
