package larder_test

import (
	"math/rand"
	"slices"
	"testing"

	"larder/api"
	"larder/larder"
)

// anyCommand makes a command of this stage, mostly of lots that may be there.
func anyCommand(r *rand.Rand) string {
	lot := func() uint64 { return uint64(r.Intn(33)) }
	few := func() uint64 { return uint64(r.Intn(12)) }
	switch r.Intn(7) {
	case 0:
		return text(api.Day, uint64(r.Intn(4)))
	case 1:
		return text(api.Receive, lot(), 1+uint64(r.Intn(2)), 10*few(), few())
	case 2:
		return text(api.Split, lot(), lot(), few())
	case 3:
		return text(api.Merge, lot(), lot(), lot())
	case 4:
		return text(api.Scrap, lot(), few())
	case 5:
		return text(api.Look, lot())
	}
	return text(api.Supply, 1+uint64(r.Intn(2)), few())
}

// looks is what Look tells of the lots 1 to 40 that are there.
func looks(t *testing.T, l *larder.Larder) map[uint64][]uint64 {
	t.Helper()
	found := map[uint64][]uint64{}
	for lot := uint64(1); lot <= 40; lot++ {
		if reply := l.Handle(text(api.Look, lot)); reply[0] == byte(api.OK) {
			found[lot] = numbers(t, reply)
		}
	}
	return found
}

// balanced holds Got of each lot against the sum of its other counts, and the
// places against 1, 2 and so on.
func balanced(t *testing.T, found map[uint64][]uint64) {
	t.Helper()
	var places []uint64
	for lot, n := range found {
		if n[3] != n[4]+n[5]+n[6]+n[7]+n[8] {
			t.Fatalf("P5: the counts of lot %d do not add up: %d", lot, n)
		}
		places = append(places, n[2])
	}
	slices.Sort(places)
	for i, place := range places {
		if place != uint64(i)+1 {
			t.Fatalf("P5: the places are %d", places)
		}
	}
}

// supplyOf reckons Supply from what Look tells.
func supplyOf(found map[uint64][]uint64, goods, from uint64) []uint64 {
	var lots, free uint64
	for _, n := range found {
		if n[0] == goods && n[1] >= from && n[4] > 0 && n[9] == 0 {
			lots++
			free += n[4]
		}
	}
	return []uint64{lots, free}
}

// Whatever is done, counts add up, Supply agrees with Look, and an error or a
// question changes nothing.
func TestWalk(t *testing.T) {
	for seed := range int64(60) {
		r := rand.New(rand.NewSource(seed))
		l := larder.New()
		today := uint64(0)
		for range 150 {
			before := seen(l)
			command := anyCommand(r)
			reply := l.Handle(command)
			ok := reply[0] == byte(api.OK)
			if ok && command[0] == api.Day {
				today = uint64(command[1])
			}
			if (!ok || command[0] >= api.Look) && seen(l) != before {
				t.Fatalf("P1: Handle(%x) = %x changed the store", command, reply)
			}
			found := looks(t, l)
			balanced(t, found)
			goods, gate := 1+uint64(r.Intn(2)), uint64(r.Intn(12))
			got, want := numbers(t, l.Handle(text(api.Supply, goods, gate))), supplyOf(found, goods, today+gate+1)
			if !slices.Equal(got, want) {
				t.Fatalf("P5: Supply %d, %d = %d, want %d", goods, gate, got, want)
			}
		}
	}
}
