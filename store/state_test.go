package store

import (
	"encoding/hex"
	"reflect"
	"strings"
	"testing"

	"larder/api"
	"larder/command"
)

// of16 makes bytes of figures to the base 16.
func of16(t *testing.T, figures string) string {
	t.Helper()
	b, err := hex.DecodeString(strings.ReplaceAll(figures, " ", ""))
	if err != nil {
		t.Fatal(err)
	}
	return string(b)
}

// fromState answers what FromState does, or nil if it panics.
func fromState(text string) (s *Store) {
	defer func() {
		if recover() != nil {
			s = nil
		}
	}()
	return FromState(text)
}

// busy has all that a store can have; lot 3 is made of one with a greater
// number, lots 2 and 1 of two that were merged the greater ahead.
func busy(t *testing.T) *Store {
	t.Helper()
	s := New()
	done(t, s,
		command.Day{Day: 300},
		command.Receive{Lot: 9, Goods: 7, Count: 500, Expiry: 400},
		command.Receive{Lot: 4, Goods: 7, Count: 20, Expiry: 350},
		command.Split{Lot: 9, New: 3, Count: 40},
		command.Order{Order: 6, Goods: 7, Count: 21},
		command.Order{Order: 5, Goods: 7, Count: 200, Way: api.First},
		command.Scrap{Lot: 9, Count: 2},
		command.Merge{A: 9, B: 4, New: 2},
		command.Receive{Lot: 8, Goods: 1, Count: 6, Expiry: 0},
		command.Merge{A: 3, B: 2, New: 1},
		command.Ship{Order: 5},
		command.Order{Order: 4, Goods: 7, Count: 10},
		command.Recall{Lot: 9, Mark: 2},
		command.Recall{Lot: 4, Mark: 5},
		command.Recall{Lot: 9, Mark: 1})
	return s
}

func TestStateOfABusyStore(t *testing.T) {
	want := "0d ac02 06 06" +
		"01 07 de02 06 9f02 0a 00 00 02 02 8202 03 27" +
		"02 07 de02 04 00 00 00 00 02 04 00 09 8202" +
		"03 07 9003 03 00 01 00 00 01 09 28" +
		"04 07 de02 02 00 14 00 00 00 14" +
		"08 01 00 05 06 00 00 00 00 06" +
		"09 07 9003 01 00 00 c801 02 00 f403" +
		"02 04 07 01 01 0a 06 07 02 03 01 04 14" +
		"03 04 05 09 01 09 02"
	if got := busy(t).State(); got != of16(t, want) {
		t.Errorf("P10: the state is %x, want %s", got, want)
	}
}

func TestStoresOfTheirStates(t *testing.T) {
	for name, s := range map[string]*Store{"empty": New(), "three lots": threeLots(t), "busy": busy(t)} {
		text := s.State()
		again := fromState(text)
		if again == nil {
			t.Errorf("P11: the state of the store %s is not taken: %x", name, text)
			continue
		}
		if got := again.State(); got != text {
			t.Errorf("P10: the state of the store %s, %x, is told again as %x", name, text, got)
		}
		for i, l := range s.lots {
			got, want := *again.lots[i], *l
			if len(got.parents) != len(want.parents) {
				t.Errorf("P11: lot %d of the store %s has the parents %v, want %v", l.number, name, got.parents, want.parents)
			}
			got.parents, want.parents = nil, nil
			if !reflect.DeepEqual(got, want) {
				t.Errorf("P11: of the store %s came %v, want %v", name, got, want)
			}
		}
		if !reflect.DeepEqual(again.orders, s.orders) || !reflect.DeepEqual(again.holdings, s.holdings) || !reflect.DeepEqual(again.recalls, s.recalls) {
			t.Errorf("P11: of the store %s came the orders %v, the lines %v, the recalls %v", name, again.orders, again.holdings, again.recalls)
		}
	}
}

func TestStatesCutOrGrownAreNone(t *testing.T) {
	whole := busy(t).State()
	for cut := range whole {
		if fromState(whole[:cut]) != nil {
			t.Errorf("P11: %d bytes of a state of %d are taken", cut, len(whole))
		}
	}
	for last := range 256 {
		if fromState(whole+string([]byte{byte(last)})) != nil {
			t.Errorf("P11: a state with the byte %d behind is taken", last)
		}
	}
	for code := range 256 {
		if got := fromState(string([]byte{byte(code)})+whole[1:]) != nil; got != (code == api.State) {
			t.Errorf("P11: a state with the code %d: %v", code, got)
		}
	}
}

// To tell a state changes nothing.
func TestStateChangesNothing(t *testing.T) {
	s, same := busy(t), busy(t)
	s.State()
	if !reflect.DeepEqual(s, same) {
		t.Error("P10: the store is another")
	}
}
