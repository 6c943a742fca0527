package store

import (
	"slices"
	"testing"

	"larder/api"
	"larder/command"
)

// threeLots has lots of which 2 was made of 1.
func threeLots(t *testing.T) *Store {
	t.Helper()
	s := New()
	done(t, s,
		command.Receive{Lot: 1, Goods: 7, Count: 10, Expiry: 20},
		command.Split{Lot: 1, New: 2, Count: 4},
		command.Receive{Lot: 3, Goods: 7, Count: 3, Expiry: 30})
	return s
}

// looked asks Look.
func looked(t *testing.T, s *Store, number int64) []int64 {
	t.Helper()
	numbers, errno := s.Do(command.Look{Lot: number})
	if errno != api.OK {
		t.Fatalf("Look %d: %d", number, errno)
	}
	return numbers
}

func TestRecalledLotsDoNotServe(t *testing.T) {
	for _, way := range []int64{0, api.Whole, api.First, api.Whole + api.First} {
		s := threeLots(t)
		done(t, s, command.Recall{Lot: 1, Mark: 1})
		got, errno := s.Do(command.Order{Order: 1, Goods: 7, Count: 3, Way: way})
		if want := []int64{1, 3, 3}; errno != api.OK || !slices.Equal(got, want) {
			t.Errorf("P6: Order by the way %d = %v, %d, want %v", way, got, errno, want)
		}
		if _, errno := s.Do(command.Order{Order: 2, Goods: 7, Count: 1, Way: way}); errno != api.ErrShort {
			t.Errorf("P6: Order of recalled lots by the way %d: %d", way, errno)
		}
	}
}

func TestOrdersOfRecalledLotsEnd(t *testing.T) {
	s := threeLots(t)
	done(t, s,
		command.Order{Order: 1, Goods: 7, Count: 8},
		command.Order{Order: 2, Goods: 7, Count: 9})
	done(t, s, command.Recall{Lot: 1, Mark: 1})
	done(t, s, command.Recall{Lot: 3, Mark: 1})
	done(t, s, command.Cancel{Order: 1}, command.Ship{Order: 2})
	for number, want := range map[int64][]int64{
		1: {7, 20, 1, 10, 6, 0, 0, 0, 4, 1},
		2: {7, 20, 2, 4, 2, 0, 2, 0, 0, 1},
		3: {7, 30, 3, 3, 0, 0, 3, 0, 0, 1},
	} {
		if got := looked(t, s, number); !slices.Equal(got, want) {
			t.Errorf("P7: Look %d = %v, want %v", number, got, want)
		}
	}
}

// An order that has ended leaves nothing behind, and one that is there has
// its goods and its lines.
func TestOrdersAreKept(t *testing.T) {
	s := threeLots(t)
	done(t, s,
		command.Order{Order: 5, Goods: 7, Count: 8},
		command.Order{Order: 4, Goods: 7, Count: 2})
	want := map[holding]int64{{5, 1}: 6, {5, 2}: 2, {4, 2}: 2}
	if len(s.orders) != 2 || s.orders[4] != 7 || s.orders[5] != 7 || len(s.holdings) != len(want) {
		t.Errorf("P6: there are the orders %v with the lines %v", s.orders, s.holdings)
	}
	for key, count := range want {
		if s.holdings[key] != count {
			t.Errorf("P6: order %d holds %d of lot %d, want %d", key.order, s.holdings[key], key.lot, count)
		}
	}
	done(t, s, command.Ship{Order: 5}, command.Cancel{Order: 4})
	if len(s.orders) != 0 || len(s.holdings) != 0 {
		t.Errorf("P7: there are still the orders %v with the lines %v", s.orders, s.holdings)
	}
}
