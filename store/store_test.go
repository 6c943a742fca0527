package store

import (
	"slices"
	"testing"

	"larder/api"
	"larder/command"
)

// done does commands that must answer OK.
func done(t *testing.T, s *Store, commands ...command.Command) {
	t.Helper()
	for _, c := range commands {
		if _, errno := s.Do(c); errno != api.OK {
			t.Fatalf("%#v: %d", c, errno)
		}
	}
}

// isRecalled asks Look.
func isRecalled(t *testing.T, s *Store, number int64) bool {
	t.Helper()
	numbers, errno := s.Do(command.Look{Lot: number})
	if errno != api.OK || len(numbers) != 10 {
		t.Fatalf("Look %d: %v, %d", number, numbers, errno)
	}
	return numbers[9] == 1
}

// supplied asks Supply.
func supplied(t *testing.T, s *Store, goods, gate int64) []int64 {
	t.Helper()
	numbers, errno := s.Do(command.Supply{Goods: goods, Gate: gate})
	if errno != api.OK {
		t.Fatalf("Supply: %d", errno)
	}
	return numbers
}

func TestParentsAreKept(t *testing.T) {
	s := New()
	done(t, s,
		command.Receive{Lot: 5, Goods: 7, Count: 10, Expiry: 20},
		command.Receive{Lot: 4, Goods: 7, Count: 2, Expiry: 30},
		command.Split{Lot: 5, New: 3, Count: 4},
		command.Scrap{Lot: 4, Count: 2},
		command.Merge{A: 5, B: 4, New: 2})
	for number, want := range map[int64][]parent{5: nil, 4: nil, 3: {{5, 4}}, 2: {{5, 6}, {4, 0}}} {
		if got := s.find(number).parents; !slices.Equal(got, want) {
			t.Errorf("lot %d has the parents %v, want %v", number, got, want)
		}
	}
}

func TestRecalledIsAllThatComesOfALot(t *testing.T) {
	s := New()
	done(t, s,
		command.Receive{Lot: 9, Goods: 7, Count: 100, Expiry: 50},
		command.Receive{Lot: 1, Goods: 7, Count: 5, Expiry: 50},
		command.Receive{Lot: 2, Goods: 7, Count: 3, Expiry: 50},
		command.Split{Lot: 9, New: 8, Count: 40},
		command.Merge{A: 1, B: 8, New: 3},
		command.Split{Lot: 3, New: 4, Count: 10},
		command.Receive{Lot: 6, Goods: 7, Count: 1, Expiry: 50})
	recalledOf := func(lots ...int64) {
		t.Helper()
		for _, l := range s.lots {
			if got, want := isRecalled(t, s, l.number), slices.Contains(lots, l.number); got != want {
				t.Errorf("P5: lot %d recalled: %v, want %v", l.number, got, want)
			}
		}
	}
	recalledOf()
	if got := supplied(t, s, 7, 0); !slices.Equal(got, []int64{5, 60 + 3 + 35 + 10 + 1}) {
		t.Errorf("P5: Supply = %v", got)
	}
	done(t, s, command.Recall{Lot: 8, Mark: 1})
	recalledOf(8, 3, 4)
	if got := supplied(t, s, 7, 0); !slices.Equal(got, []int64{3, 60 + 3 + 1}) {
		t.Errorf("P5: Supply beside a recall = %v", got)
	}
	done(t, s, command.Recall{Lot: 2, Mark: 1})
	recalledOf(8, 3, 4, 2)
	done(t, s, command.Release{Lot: 8, Mark: 1})
	recalledOf(2)
}

// A parent of which nothing was got is a parent.
func TestRecalledByAnEmptyParent(t *testing.T) {
	s := New()
	done(t, s,
		command.Receive{Lot: 1, Goods: 7, Count: 5, Expiry: 50},
		command.Receive{Lot: 2, Goods: 7, Count: 5, Expiry: 50},
		command.Scrap{Lot: 1, Count: 5},
		command.Merge{A: 1, B: 2, New: 3})
	done(t, s, command.Recall{Lot: 1, Mark: 1})
	if !isRecalled(t, s, 3) {
		t.Error("P5: lot 3 is not recalled")
	}
}

// Each lot is merged with the one ahead of it, so that the ways back to the
// first are very many.
func TestRecalledAlongManyWays(t *testing.T) {
	s := New()
	done(t, s,
		command.Receive{Lot: 1, Goods: 7, Count: 5, Expiry: 50},
		command.Receive{Lot: 2, Goods: 7, Count: 5, Expiry: 50})
	for n := int64(3); n <= api.MaxLots; n++ {
		done(t, s, command.Merge{A: n - 2, B: n - 1, New: n})
	}
	done(t, s, command.Recall{Lot: 1, Mark: 1})
	for n := int64(1); n <= api.MaxLots; n++ {
		if got, want := isRecalled(t, s, n), n != 2; got != want {
			t.Errorf("P5: lot %d recalled: %v, want %v", n, got, want)
		}
	}
}
