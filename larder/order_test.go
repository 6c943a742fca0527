package larder_test

import (
	"slices"
	"testing"

	"larder/api"
	"larder/larder"
)

func TestExample2(t *testing.T) {
	told(t, "P6", example(t),
		"05 01 07 fa 01 00 00", "00 02 02 c8 01 03 32",
		"05 01 07 fa 01 00 00", "05",
		"05 02 07 64 00 01", "07",
		"05 02 07 64 00 00", "00 02 03 32 01 05")
}

func TestExample3(t *testing.T) {
	told(t, "P6", example(t), "05 01 07 fa 01 00 02", "00 03 01 05 02 c8 01 03 2d")
}

// The errors of an order, the first that applies.
func TestP4Order(t *testing.T) {
	l := larder.New()
	answered(t, "P4", l, api.ErrShort, api.Order, 1, 7, 1, 0, 0)
	answered(t, "P4", l, api.OK, api.Receive, 1, 7, 10, 20)
	for n := range uint64(api.MaxOrders) {
		if n > 0 {
			answered(t, "P4", l, api.ErrTwice, api.Order, n, 8, 100, 0, api.Whole)
		}
		told(t, "P6", l, "05 0"+string("123456789a"[n])+" 07 01 00 00", "00 01 01 01")
	}
	// There is nothing left; that there are too many orders is named first.
	answered(t, "P4", l, api.ErrFull, api.Order, 11, 7, 1, 0, 0)
	answered(t, "P4", l, api.ErrFull, api.Order, api.MaxId, 7, 1, 0, api.Whole)
	answered(t, "P4", l, api.ErrTwice, api.Order, 10, 7, 1, 0, 0)
	answered(t, "P4", l, api.ErrNumber, api.Order, 10, 7, 1, 0, 4)
	answered(t, "P4", l, api.OK, api.Ship, 3)
	answered(t, "P4", l, api.ErrShort, api.Order, 11, 7, 1, 0, 0)
	answered(t, "P4", l, api.OK, api.Cancel, 4)
	told(t, "P6", l, "05 0b 07 01 00 00", "00 01 01 01")
	told(t, "P6", l, "05 03 07 01 00 00", "07")
	answered(t, "P4", l, api.OK, api.Cancel, 10)
	told(t, "P6", l, "05 03 07 01 00 00", "00 01 01 01")
	answered(t, "P4", l, api.OK, api.Cancel, 5)
	told(t, "P6", l, "05 05 07 01 00 00", "00 01 01 01")
	answered(t, "P4", l, api.ErrOrder, api.Cancel, 4)
	answered(t, "P4", l, api.ErrOrder, api.Ship, 10)
}

func TestP4CancelAndShip(t *testing.T) {
	l := example(t)
	for _, code := range []byte{api.Cancel, api.Ship} {
		answered(t, "P4", l, api.ErrOrder, code, 1)
		told(t, "P6", l, "05 01 07 03 05 00", "00 01 01 03")
		answered(t, "P4", l, api.ErrOrder, code, 2)
		answered(t, "P4", l, api.ErrOrder, code, 7)
		answered(t, "P4", l, api.ErrOrder, code, api.MaxId)
		answered(t, "P4", l, api.OK, code, 1)
		answered(t, "P4", l, api.ErrOrder, api.Cancel, 1)
		answered(t, "P4", l, api.ErrOrder, api.Ship, 1)
	}
}

// A refused order is not there, takes no order's room, and holds nothing.
func TestP1RefusedOrdersLeaveNothing(t *testing.T) {
	l := example(t)
	before := seen(l)
	for n := range uint64(20) {
		answered(t, "P1", l, api.ErrShort, api.Order, n+1, 7, 306, 0, api.Whole)
		answered(t, "P1", l, api.ErrShort, api.Order, n+1, 7, 306, 0, api.Whole+api.First)
		answered(t, "P1", l, api.ErrShort, api.Order, n+1, 7, 1, 10, 0)
		answered(t, "P1", l, api.ErrShort, api.Order, n+1, 8, 1, 0, 0)
		answered(t, "P1", l, api.ErrNumber, api.Order, n+1, 7, 1, 0, 4)
		answered(t, "P1", l, api.ErrOrder, api.Cancel, n+1)
		answered(t, "P1", l, api.ErrOrder, api.Ship, n+1)
	}
	if seen(l) != before {
		t.Fatal("P1: a refused command changed the store")
	}
	told(t, "P6", l, "05 01 07 b1 02 00 01", "00 03 02 c8 01 03 64 01 05")
	before = seen(l)
	answered(t, "P1", l, api.ErrTwice, api.Order, 1, 7, 1, 0, 0)
	answered(t, "P1", l, api.ErrShort, api.Order, 2, 7, 1, 0, 0)
	answered(t, "P1", l, api.ErrOrder, api.Cancel, 2)
	answered(t, "P1", l, api.ErrOrder, api.Ship, 2)
	if seen(l) != before {
		t.Fatal("P1: a refused command changed the store")
	}
}

func TestP5HeldAndShipped(t *testing.T) {
	told(t, "P5", example(t),
		"05 01 07 fa 01 00 00", "00 02 02 c8 01 03 32",
		"05 02 07 0a 00 00", "00 01 03 0a",
		"0b 01", "00 07 14 01 05 05 00 00 00 00 00",
		"0b 02", "00 07 0f 02 ac 02 00 c8 01 00 00 64 00",
		"0b 03", "00 07 0f 03 64 28 3c 00 00 00 00",
		"0c 07 00", "00 02 2d",
		"07 01", "00",
		"0b 02", "00 07 0f 02 ac 02 00 00 c8 01 00 64 00",
		"0b 03", "00 07 0f 03 64 28 0a 32 00 00 00",
		"0c 07 00", "00 02 2d",
		"06 02", "00",
		"0b 03", "00 07 0f 03 64 32 00 32 00 00 00",
		"0c 07 00", "00 02 37")
}

// What is Held is not Free: it is neither split, merged nor scrapped.
func TestP5HeldIsNotFree(t *testing.T) {
	told(t, "P5", example(t),
		"05 01 07 03 05 00", "00 01 01 03",
		"0a 01 03", "07", "03 01 04 03", "07", "0a 01 01", "00",
		"04 01 02 04", "00",
		"0b 01", "00 07 14 01 05 00 03 00 01 01 00",
		"0b 04", "00 07 0f 04 c9 01 c9 01 00 00 00 00 00",
		"04 02 01 05", "07",
		"06 01", "00",
		"0b 01", "00 07 14 01 05 03 00 00 01 01 00",
		"04 02 01 05", "00",
		"0b 05", "00 07 0f 05 03 03 00 00 00 00 00")
}

// sixLots has lots of goods 7 whose numbers, expiries and places all rise
// otherwise: in the order of coming the lots 60, 10, 50, 20, 40, 30, with the
// expiries 14, 13, 12, 13, 11, 12; and one of other goods that goes ahead of
// all. Of the number n there are n/10.
func sixLots(t *testing.T) *larder.Larder {
	t.Helper()
	l := larder.New()
	answered(t, "P6", l, api.OK, api.Receive, 1, 8, 90, 11)
	expiries := []uint64{14, 13, 12, 13, 11, 12}
	for i, number := range []uint64{60, 10, 50, 20, 40, 30} {
		answered(t, "P6", l, api.OK, api.Receive, number, 7, number/10, expiries[i])
	}
	return l
}

// ordered does an order and holds its lines against those wanted.
func ordered(t *testing.T, l *larder.Larder, ns []uint64, lines ...uint64) {
	t.Helper()
	want := append([]uint64{uint64(len(lines) / 2)}, lines...)
	if got := numbers(t, l.Handle(text(api.Order, ns...))); !slices.Equal(got, want) {
		t.Errorf("P6: Order %d = %d, want %d", ns, got, want)
	}
}

func TestP6WhatGoesFirst(t *testing.T) {
	for _, whole := range []uint64{0, api.Whole} {
		l := sixLots(t)
		ordered(t, l, []uint64{1, 7, 21, 0, whole}, 40, 4, 30, 3, 50, 5, 10, 1, 20, 2, 60, 6)
		l = sixLots(t)
		ordered(t, l, []uint64{1, 7, 21, 0, whole + api.First}, 60, 6, 10, 1, 50, 5, 20, 2, 40, 4, 30, 3)
	}
}

// Each gives all that it has, the last no more than is still wanted.
func TestP6NoMoreThanIsWanted(t *testing.T) {
	l := sixLots(t)
	ordered(t, l, []uint64{1, 7, 3, 0, 0}, 40, 3)
	ordered(t, l, []uint64{2, 7, 1, 0, api.Whole}, 40, 1)
	ordered(t, l, []uint64{3, 7, 4, 0, 0}, 30, 3, 50, 1)
	ordered(t, l, []uint64{4, 7, 7, 0, api.First}, 60, 6, 10, 1)
	ordered(t, l, []uint64{5, 7, 5, 0, api.Whole}, 50, 4, 20, 1)
	ordered(t, l, []uint64{6, 7, 1, 0, api.Whole + api.First}, 20, 1)
	answered(t, "P6", l, api.ErrShort, api.Order, 7, 7, 1, 0, 0)
	answered(t, "P6", l, api.OK, api.Cancel, 3)
	ordered(t, l, []uint64{7, 7, 9, 0, api.First}, 50, 1, 30, 3)
}

func TestP6Short(t *testing.T) {
	for _, first := range []uint64{0, api.First} {
		l := sixLots(t)
		answered(t, "P6", l, api.ErrShort, api.Order, 1, 7, 22, 0, api.Whole+first)
		answered(t, "P6", l, api.ErrShort, api.Order, 1, 7, api.MaxCount, 0, api.Whole+first)
		answered(t, "P6", l, api.ErrShort, api.Order, 1, 9, 1, 0, api.Whole+first)
		answered(t, "P6", l, api.ErrShort, api.Order, 1, 9, 1, 0, first)
		answered(t, "P6", l, api.ErrShort, api.Order, 1, 7, 1, 14, first)
		if ns := numbers(t, l.Handle(text(api.Order, 1, 7, 22, 0, first))); len(ns) != 13 || ns[0] != 6 {
			t.Errorf("P6: an order of too many got %d", ns)
		}
		answered(t, "P6", l, api.ErrShort, api.Order, 2, 7, 1, 0, first)
		answered(t, "P6", l, api.ErrShort, api.Order, 2, 7, 1, 0, api.Whole+first)
	}
}

// A lot gives if its expiry is at least today + gate + 1.
func TestP6Gate(t *testing.T) {
	l := sixLots(t)
	answered(t, "P6", l, api.OK, api.Day, 4)
	ordered(t, l, []uint64{1, 7, 99, 7, 0}, 30, 3, 50, 5, 10, 1, 20, 2, 60, 6)
	answered(t, "P6", l, api.OK, api.Cancel, 1)
	ordered(t, l, []uint64{1, 7, 99, 8, api.First}, 60, 6, 10, 1, 20, 2)
	answered(t, "P6", l, api.OK, api.Cancel, 1)
	ordered(t, l, []uint64{1, 7, 6, 9, api.Whole}, 60, 6)
	answered(t, "P6", l, api.OK, api.Cancel, 1)
	answered(t, "P6", l, api.ErrShort, api.Order, 1, 7, 1, 10, 0)
	answered(t, "P6", l, api.ErrShort, api.Order, 1, 7, 1, api.MaxDay, 0)
	answered(t, "P6", l, api.OK, api.Day, 13)
	ordered(t, l, []uint64{1, 7, 99, 0, 0}, 60, 6)
	answered(t, "P6", l, api.OK, api.Day, 14)
	answered(t, "P6", l, api.ErrShort, api.Order, 2, 7, 1, 0, 0)
}

func TestP6GreatestNumbers(t *testing.T) {
	l := larder.New()
	for n := range uint64(3) {
		answered(t, "P6", l, api.OK, api.Receive, api.MaxId-n, api.MaxId, api.MaxCount, api.MaxDay)
	}
	answered(t, "P6", l, api.OK, api.Scrap, api.MaxId-2, 1)
	ordered(t, l, []uint64{api.MaxId, api.MaxId, api.MaxCount, api.MaxDay - 1, api.Whole}, api.MaxId-2, api.MaxCount-1, api.MaxId-1, 1)
	ordered(t, l, []uint64{1, api.MaxId, api.MaxCount, api.MaxDay - 1, api.Whole + api.First}, api.MaxId, api.MaxCount)
	answered(t, "P6", l, api.ErrShort, api.Order, 2, api.MaxId, api.MaxCount, 0, api.Whole)
	answered(t, "P6", l, api.ErrShort, api.Order, 2, api.MaxId, 1, api.MaxDay, 0)
	ordered(t, l, []uint64{2, api.MaxId, api.MaxCount, 0, 0}, api.MaxId-1, api.MaxCount-1)
	answered(t, "P7", l, api.OK, api.Ship, api.MaxId)
}

func TestP6AllLots(t *testing.T) {
	l := larder.New()
	var rising, falling []uint64
	for n := uint64(api.MaxLots); n >= 1; n-- {
		answered(t, "P6", l, api.OK, api.Receive, n, 7, n, 20)
		falling = append(falling, n, n)
		rising = append([]uint64{n, n}, rising...)
	}
	ordered(t, l, []uint64{1, 7, 465, 0, api.Whole}, rising...)
	answered(t, "P7", l, api.OK, api.Cancel, 1)
	ordered(t, l, []uint64{1, 7, 465, 0, api.Whole + api.First}, falling...)
	answered(t, "P7", l, api.OK, api.Ship, 1)
	told(t, "P7", l, "0c 07 00", "00 00 00", "0b 1e", "00 07 14 01 1e 00 00 1e 00 00 00")
}

// Lots that were made of others go by their own places and their own numbers.
func TestP6LotsMadeOfOthers(t *testing.T) {
	l := larder.New()
	told(t, "P6", l,
		"02 09 07 05 14", "00", "02 08 07 05 1e", "00",
		"03 08 02 02", "00", "04 09 08 01", "00", "03 01 03 04", "00")
	ordered(t, l, []uint64{1, 7, 99, 0, 0}, 1, 4, 3, 4, 2, 2)
	answered(t, "P7", l, api.OK, api.Cancel, 1)
	ordered(t, l, []uint64{1, 7, 99, 0, api.First}, 2, 2, 1, 4, 3, 4)
}

func TestP7WhateverTheDay(t *testing.T) {
	for _, code := range []byte{api.Cancel, api.Ship} {
		l := example(t)
		ordered(t, l, []uint64{1, 7, 250, 0, 0}, 2, 200, 3, 50)
		answered(t, "P7", l, api.OK, api.Day, api.MaxDay)
		answered(t, "P7", l, api.OK, code, 1)
		free, shipped := uint64(50), uint64(0)
		if code == api.Ship {
			free, shipped = 0, 50
		}
		if got, want := numbers(t, l.Handle(text(api.Look, 3))), []uint64{7, 15, 3, 100, 50 + free, 0, shipped, 0, 0, 0}; !slices.Equal(got, want) {
			t.Errorf("P7: Look 3 behind command %d = %d, want %d", code, got, want)
		}
		answered(t, "P7", l, api.ErrOrder, code, 1)
	}
}

// A number that is free again may be another order's, of other goods.
func TestP7NumberIsFreeAgain(t *testing.T) {
	l := example(t)
	answered(t, "P7", l, api.OK, api.Receive, 4, 8, 9, 40)
	ordered(t, l, []uint64{1, 7, 250, 0, 0}, 2, 200, 3, 50)
	answered(t, "P7", l, api.OK, api.Ship, 1)
	ordered(t, l, []uint64{1, 8, 4, 0, 0}, 4, 4)
	answered(t, "P7", l, api.OK, api.Cancel, 1)
	ordered(t, l, []uint64{1, 7, 30, 0, api.Whole}, 3, 30)
	answered(t, "P7", l, api.OK, api.Ship, 1)
	told(t, "P7", l,
		"0b 02", "00 07 0f 02 ac 02 00 00 c8 01 00 64 00",
		"0b 03", "00 07 0f 03 64 14 00 50 00 00 00",
		"0b 04", "00 08 28 04 09 09 00 00 00 00 00")
}

// One order's end leaves what others hold of the same lots.
func TestP7OrdersStandAlone(t *testing.T) {
	l := example(t)
	ordered(t, l, []uint64{2, 7, 100, 0, 0}, 2, 100)
	ordered(t, l, []uint64{1, 7, 150, 0, 0}, 2, 100, 3, 50)
	ordered(t, l, []uint64{3, 7, 20, 0, 0}, 3, 20)
	answered(t, "P7", l, api.OK, api.Cancel, 1)
	told(t, "P7", l, "0b 02", "00 07 0f 02 ac 02 64 64 00 00 64 00", "0b 03", "00 07 0f 03 64 50 14 00 00 00 00")
	answered(t, "P7", l, api.OK, api.Ship, 3)
	answered(t, "P7", l, api.OK, api.Ship, 2)
	told(t, "P7", l, "0b 02", "00 07 0f 02 ac 02 64 00 64 00 64 00", "0b 03", "00 07 0f 03 64 50 00 14 00 00 00")
}
