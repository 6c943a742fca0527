package larder_test

import (
	"slices"
	"testing"

	"larder/api"
	"larder/larder"
)

func TestExample4(t *testing.T) {
	told(t, "P5, P7, P8", example(t),
		"05 01 07 fa 01 00 00", "00 02 02 c8 01 03 32",
		"08 02 09", "00 02 02 c8 01 03 32",
		"0c 07 00", "00 01 05",
		"03 03 04 01", "00",
		"0b 04", "00 07 0f 04 01 01 00 00 00 00 01",
		"09 02 08", "0a",
		"09 02 09", "00",
		"0b 04", "00 07 0f 04 01 01 00 00 00 00 00",
		"07 01", "00",
		"0b 02", "00 07 0f 02 ac 02 00 00 c8 01 00 64 00")
}

// recalled does a recall and holds what it tells to be Held, lots and how many
// in turn, against what is wanted.
func recalled(t *testing.T, l *larder.Larder, lot, mark uint64, held ...uint64) {
	t.Helper()
	want := append([]uint64{uint64(len(held) / 2)}, held...)
	if got := numbers(t, l.Handle(text(api.Recall, lot, mark))); !slices.Equal(got, want) {
		t.Errorf("P5: Recall %d, %d = %d, want %d", lot, mark, got, want)
	}
}

// areRecalled holds what Look tells of all lots against those wanted.
func areRecalled(t *testing.T, promise string, l *larder.Larder, lots ...uint64) {
	t.Helper()
	found := looks(t, l)
	for _, lot := range lots {
		if found[lot] == nil {
			t.Errorf("%s: there is no lot %d", promise, lot)
		}
	}
	for lot, n := range found {
		want := uint64(0)
		if slices.Contains(lots, lot) {
			want = 1
		}
		if n[9] != want {
			t.Errorf("%s: Look %d ends with %d, want %d", promise, lot, n[9], want)
		}
	}
}

// supplied holds Supply of goods 7, gate 0, against what is wanted.
func supplied(t *testing.T, promise string, l *larder.Larder, lots, free uint64) {
	t.Helper()
	if got, want := numbers(t, l.Handle(text(api.Supply, 7, 0))), []uint64{lots, free}; !slices.Equal(got, want) {
		t.Errorf("%s: Supply 7, 0 = %d, want %d", promise, got, want)
	}
}

// kin has lots of goods 7, whose numbers and places rise otherwise: 50 was
// received; 40 and 30 were split off it; 20 was received and merged with 40 to
// 10; 5 was split off 10; 60 stands alone. Free are 50: 60, 40: 0, 30: 10,
// 20: 0, 10: 26, 5: 9, 60: 8.
func kin(t *testing.T) *larder.Larder {
	t.Helper()
	l := larder.New()
	answered(t, "P8", l, api.OK, api.Receive, 50, 7, 100, 30)
	answered(t, "P8", l, api.OK, api.Split, 50, 40, 30)
	answered(t, "P8", l, api.OK, api.Split, 50, 30, 10)
	answered(t, "P8", l, api.OK, api.Receive, 20, 7, 5, 20)
	answered(t, "P8", l, api.OK, api.Merge, 20, 40, 10)
	answered(t, "P8", l, api.OK, api.Split, 10, 5, 9)
	answered(t, "P8", l, api.OK, api.Receive, 60, 7, 8, 40)
	return l
}

// The errors of a recall, the first that applies.
func TestP4Recall(t *testing.T) {
	l := example(t)
	answered(t, "P4", l, api.ErrNumber, api.Recall, 9, 0)
	answered(t, "P4", l, api.ErrLot, api.Recall, 9, 1)
	recalled(t, l, 1, 2)
	answered(t, "P4", l, api.ErrTwice, api.Recall, 1, 2)
	// A recall is another if its lot or its mark is.
	recalled(t, l, 2, 1)
	recalled(t, l, 2, 2)
	recalled(t, l, 1, 1)
	answered(t, "P4", l, api.ErrTwice, api.Recall, 2, 1)
	for mark := range uint64(api.MaxRecalls - 4) {
		recalled(t, l, 3, mark+1)
	}
	answered(t, "P4", l, api.ErrFull, api.Recall, 3, 7)
	answered(t, "P4", l, api.ErrFull, api.Recall, 1, 3)
	answered(t, "P4", l, api.ErrTwice, api.Recall, 3, 6)
	answered(t, "P4", l, api.ErrLot, api.Recall, 9, 1)
	answered(t, "P4", l, api.ErrNumber, api.Recall, beyond, 1)
	answered(t, "P4", l, api.OK, api.Release, 2, 2)
	recalled(t, l, 1, 3)
	answered(t, "P4", l, api.ErrFull, api.Recall, 2, 2)
	answered(t, "P4", l, api.ErrTwice, api.Recall, 1, 3)
}

func TestP4Release(t *testing.T) {
	l := example(t)
	answered(t, "P4", l, api.ErrRecall, api.Release, 1, 1)
	answered(t, "P4", l, api.ErrRecall, api.Release, 9, 1) // no such lot
	recalled(t, l, 2, 1)
	answered(t, "P4", l, api.ErrRecall, api.Release, 2, 2)
	answered(t, "P4", l, api.ErrRecall, api.Release, 1, 2)
	answered(t, "P4", l, api.ErrRecall, api.Release, 1, 1)
	answered(t, "P4", l, api.ErrRecall, api.Release, 3, 1) // it is recalled, but not itself
	answered(t, "P4", l, api.ErrNumber, api.Release, 2, 0)
	areRecalled(t, "P4", l, 2, 3)
	answered(t, "P4", l, api.OK, api.Release, 2, 1)
	answered(t, "P4", l, api.ErrRecall, api.Release, 2, 1)
	areRecalled(t, "P4", l)
	recalled(t, l, 2, 1)
	areRecalled(t, "P4", l, 2, 3)
}

func TestP4RecallGreatestNumbers(t *testing.T) {
	l := larder.New()
	answered(t, "P4", l, api.OK, api.Receive, api.MaxId, 7, api.MaxCount, api.MaxDay)
	ordered(t, l, []uint64{1, 7, api.MaxCount, 0, 0}, api.MaxId, api.MaxCount)
	recalled(t, l, api.MaxId, api.MaxId, api.MaxId, api.MaxCount)
	answered(t, "P4", l, api.ErrTwice, api.Recall, api.MaxId, api.MaxId)
	answered(t, "P4", l, api.ErrRecall, api.Release, api.MaxId, api.MaxId-1)
	answered(t, "P4", l, api.OK, api.Release, api.MaxId, api.MaxId)
}

// A refused recall is not there; a refused release has taken none away.
func TestP1RefusedRecallsChangeNothing(t *testing.T) {
	l := example(t)
	for mark := range uint64(api.MaxRecalls) {
		recalled(t, l, 2, mark+1)
	}
	before := seen(l)
	for _, s := range []string{
		text(api.Recall, 1, 1), text(api.Recall, 2, 11), text(api.Recall, 9, 1), text(api.Recall, 2, 1),
		text(api.Recall, 1, 0), text(api.Recall, 1), text(api.Recall, 1, 1, 1),
		text(api.Release, 1, 1), text(api.Release, 2, 11), text(api.Release, 2, 0), text(api.Release, 2), text(api.Release, 2, 1, 1),
	} {
		if reply := l.Handle(s); len(reply) != 1 || reply[0] == byte(api.OK) {
			t.Errorf("P1: Handle(%x) = %x, want an error alone", s, reply)
		}
		if seen(l) != before {
			t.Fatalf("P1: Handle(%x) changed the store", s)
		}
	}
	answered(t, "P1", l, api.ErrRecall, api.Release, 2, 11)
	for mark := range uint64(api.MaxRecalls) {
		areRecalled(t, "P1", l, 2, 3)
		answered(t, "P1", l, api.OK, api.Release, 2, mark+1)
	}
	areRecalled(t, "P1", l)
}

// Each lot that is Held is told once, whatever the orders that hold it and the
// ways on which it comes of the lot; those of which nothing is Held are not.
func TestP5RecallTellsWhatIsHeld(t *testing.T) {
	l := kin(t)
	recalled(t, l, 50, 1)
	answered(t, "P5", l, api.OK, api.Release, 50, 1)
	// By expiry: 5 and 10 on the day 20; 30 and 50 on the day 30.
	ordered(t, l, []uint64{1, 7, 12, 0, 0}, 5, 9, 10, 3)
	ordered(t, l, []uint64{2, 7, 24, 0, 0}, 10, 23, 30, 1)
	ordered(t, l, []uint64{3, 7, 4, 30, 0}, 60, 4)
	recalled(t, l, 50, 1, 5, 9, 10, 26, 30, 1)
	recalled(t, l, 40, 1, 5, 9, 10, 26)
	recalled(t, l, 20, 1, 5, 9, 10, 26)
	recalled(t, l, 10, 1, 5, 9, 10, 26)
	recalled(t, l, 5, 1, 5, 9)
	recalled(t, l, 30, 1, 30, 1)
	recalled(t, l, 60, 1, 60, 4)
	answered(t, "P5", l, api.OK, api.Ship, 1)
	recalled(t, l, 50, 2, 10, 23, 30, 1)
	answered(t, "P5", l, api.OK, api.Cancel, 2)
	recalled(t, l, 50, 3)
}

// The numbers rise also where they have other lengths as bytes, and where the
// lots came the other way round.
func TestP5RecallTellsRising(t *testing.T) {
	l := larder.New()
	answered(t, "P5", l, api.OK, api.Receive, 300, 7, 300, 9)
	lots := []uint64{200, 128, 256, 127, 1, 16384, 299, 301}
	for _, lot := range lots {
		answered(t, "P5", l, api.OK, api.Split, 300, lot, lot%7+1)
	}
	ordered(t, l, []uint64{1, 7, 300, 0, api.Whole + api.First},
		300, 271, 200, 5, 128, 3, 256, 5, 127, 2, 1, 2, 16384, 5, 299, 6, 301, 1)
	recalled(t, l, 300, 1, 1, 2, 127, 2, 128, 3, 200, 5, 256, 5, 299, 6, 300, 271, 301, 1, 16384, 5)
}

// All MaxLots lots, of which each but the first two is made of the two ahead
// of it, so that the ways from the first to the last are very many.
func TestP5RecallAlongManyWays(t *testing.T) {
	l := larder.New()
	answered(t, "P5", l, api.OK, api.Receive, 1, 7, 50, 9)
	answered(t, "P5", l, api.OK, api.Receive, 2, 7, 50, 9)
	for n := uint64(3); n <= api.MaxLots; n++ {
		answered(t, "P5", l, api.OK, api.Merge, n-1, n-2, n)
	}
	ordered(t, l, []uint64{1, 7, 7, 0, 0}, api.MaxLots, 7)
	recalled(t, l, 1, 1, api.MaxLots, 7)
	var all []uint64
	for n := uint64(1); n <= api.MaxLots; n++ {
		if n != 2 {
			all = append(all, n)
		}
	}
	areRecalled(t, "P5", l, all...)
	recalled(t, l, 29, 1, api.MaxLots, 7)
	answered(t, "P5", l, api.OK, api.Release, 1, 1)
	areRecalled(t, "P5", l, 29, 30)
}

// Recalled are the lot and all that comes of it, not what it came of, nor what
// else came of that.
func TestP5LookTellsRecalled(t *testing.T) {
	for lot, family := range map[uint64][]uint64{
		50: {50, 40, 30, 10, 5}, 40: {40, 10, 5}, 30: {30}, 20: {20, 10, 5}, 10: {10, 5}, 5: {5}, 60: {60},
	} {
		l := kin(t)
		areRecalled(t, "P5", l)
		recalled(t, l, lot, 1)
		areRecalled(t, "P5", l, family...)
		answered(t, "P5", l, api.OK, api.Release, lot, 1)
		areRecalled(t, "P5", l)
	}
}

// A lot is recalled as long as one recall is there of what it comes of.
func TestP5RecallsStandAlone(t *testing.T) {
	l := kin(t)
	recalled(t, l, 50, 1)
	recalled(t, l, 50, 2)
	recalled(t, l, 20, 1)
	recalled(t, l, 5, 1)
	areRecalled(t, "P5", l, 50, 40, 30, 20, 10, 5)
	answered(t, "P5", l, api.OK, api.Release, 50, 1)
	areRecalled(t, "P5", l, 50, 40, 30, 20, 10, 5)
	answered(t, "P5", l, api.OK, api.Release, 50, 2)
	areRecalled(t, "P5", l, 20, 10, 5)
	answered(t, "P5", l, api.OK, api.Release, 20, 1)
	areRecalled(t, "P5", l, 5)
	answered(t, "P5", l, api.OK, api.Release, 5, 1)
	areRecalled(t, "P5", l)
}

func TestP5SupplyBesideRecalls(t *testing.T) {
	l := kin(t)
	supplied(t, "P5", l, 5, 60+10+26+9+8)
	recalled(t, l, 40, 1)
	supplied(t, "P5", l, 3, 60+10+8)
	recalled(t, l, 60, 1)
	supplied(t, "P5", l, 2, 60+10)
	recalled(t, l, 50, 1)
	supplied(t, "P5", l, 0, 0)
	answered(t, "P5", l, api.OK, api.Release, 60, 1)
	supplied(t, "P5", l, 1, 8)
	answered(t, "P5", l, api.OK, api.Release, 50, 1)
	answered(t, "P5", l, api.OK, api.Release, 40, 1)
	supplied(t, "P5", l, 5, 60+10+26+9+8)
}

// Recalled lots give nothing, by any way; those that are not go on in their
// order.
func TestP6RecalledLotsGiveNothing(t *testing.T) {
	for _, whole := range []uint64{0, api.Whole} {
		l := kin(t)
		recalled(t, l, 20, 1)
		ordered(t, l, []uint64{1, 7, 78, 0, whole}, 30, 10, 50, 60, 60, 8)
		answered(t, "P6", l, api.ErrShort, api.Order, 2, 7, 1, 0, whole)
		answered(t, "P6", l, api.OK, api.Cancel, 1)
		ordered(t, l, []uint64{1, 7, 78, 0, whole + api.First}, 50, 60, 30, 10, 60, 8)
		answered(t, "P6", l, api.ErrShort, api.Order, 2, 7, 1, 0, whole+api.First)
		answered(t, "P6", l, api.OK, api.Release, 20, 1)
		ordered(t, l, []uint64{2, 7, 35, 0, whole + api.First}, 10, 26, 5, 9)
	}
	l := kin(t)
	recalled(t, l, 20, 1)
	answered(t, "P6", l, api.ErrShort, api.Order, 1, 7, 79, 0, api.Whole)
	recalled(t, l, 50, 1)
	recalled(t, l, 60, 1)
	answered(t, "P6", l, api.ErrShort, api.Order, 1, 7, 1, 0, 0)
}

// What a cancelled order gives back to a recalled lot is Free, but serves only
// when the recall is gone.
func TestP7OrdersOfRecalledLotsEnd(t *testing.T) {
	for _, code := range []byte{api.Cancel, api.Ship} {
		l := kin(t)
		ordered(t, l, []uint64{1, 7, 40, 0, 0}, 5, 9, 10, 26, 30, 5)
		recalled(t, l, 40, 1, 5, 9, 10, 26)
		recalled(t, l, 50, 1, 5, 9, 10, 26, 30, 5)
		answered(t, "P7", l, api.OK, api.Day, api.MaxDay)
		answered(t, "P7", l, api.OK, code, 1)
		answered(t, "P7", l, api.ErrOrder, code, 1)
		free, shipped := uint64(26), uint64(0)
		if code == api.Ship {
			free, shipped = 0, 26
		}
		if got, want := numbers(t, l.Handle(text(api.Look, 10))), []uint64{7, 20, 5, 35, free, 0, shipped, 0, 9, 1}; !slices.Equal(got, want) {
			t.Errorf("P7: Look 10 behind command %d = %d, want %d", code, got, want)
		}
	}
	l := kin(t)
	ordered(t, l, []uint64{1, 7, 9, 0, 0}, 5, 9)
	recalled(t, l, 5, 1, 5, 9)
	supplied(t, "P7", l, 4, 60+10+26+8)
	answered(t, "P7", l, api.OK, api.Cancel, 1)
	supplied(t, "P7", l, 4, 60+10+26+8)
	answered(t, "P7", l, api.OK, api.Release, 5, 1)
	supplied(t, "P7", l, 5, 60+10+26+9+8)
}

// What is split off a recalled lot, and what is split off that, is recalled.
func TestP8SplitOfRecalled(t *testing.T) {
	l := example(t)
	recalled(t, l, 1, 4)
	told(t, "P8", l,
		"03 01 04 02", "00", "0b 01", "00 07 14 01 05 03 00 00 00 02 01",
		"0b 04", "00 07 14 04 02 02 00 00 00 00 01",
		"03 04 05 01", "00", "0b 05", "00 07 14 05 01 01 00 00 00 00 01")
	areRecalled(t, "P8", l, 1, 4, 5)
	supplied(t, "P8", l, 2, 300)
	answered(t, "P8", l, api.ErrShort, api.Split, 1, 6, 4)
	answered(t, "P8", l, api.OK, api.Release, 1, 4)
	areRecalled(t, "P8", l)
	supplied(t, "P8", l, 5, 305)
}

// What is merged of a recalled lot and one that is not is recalled, whichever
// is named first; the other is not.
func TestP8MergeOfRecalled(t *testing.T) {
	for _, pair := range [][]uint64{{1, 3}, {3, 1}} {
		l := example(t)
		recalled(t, l, 1, 4)
		answered(t, "P8", l, api.OK, api.Merge, pair[0], pair[1], 4)
		told(t, "P8", l, "0b 04", "00 07 0f 04 69 69 00 00 00 00 01")
		areRecalled(t, "P8", l, 1, 4)
		answered(t, "P8", l, api.OK, api.Merge, 2, 4, 5)
		areRecalled(t, "P8", l, 1, 4, 5)
		supplied(t, "P8", l, 0, 0)
		answered(t, "P8", l, api.OK, api.Release, 1, 4)
		areRecalled(t, "P8", l)
		supplied(t, "P8", l, 1, 305)
	}
}

// A recalled lot that has nothing Free is a parent, too, though it gave
// nothing.
func TestP8MergeOfEmptyRecalled(t *testing.T) {
	for _, pair := range [][]uint64{{1, 3}, {3, 1}} {
		l := example(t)
		ordered(t, l, []uint64{1, 7, 5, 5, 0}, 1, 5)
		recalled(t, l, 1, 4, 1, 5)
		answered(t, "P8", l, api.OK, api.Merge, pair[0], pair[1], 4)
		areRecalled(t, "P8", l, 1, 4)
		supplied(t, "P8", l, 1, 200)
	}
}

func TestP8ScrapOfRecalled(t *testing.T) {
	l := example(t)
	recalled(t, l, 2, 4)
	told(t, "P8", l,
		"0a 03 0a", "00", "0b 03", "00 07 0f 03 64 5a 00 00 0a 00 01",
		"0a 02 c8 01", "00", "0b 02", "00 07 0f 02 ac 02 00 00 00 c8 01 64 01",
		"0a 02 01", "07")
	answered(t, "P8", l, api.OK, api.Release, 2, 4)
	supplied(t, "P8", l, 2, 95)
}

// A lot received while others are recalled is not recalled.
func TestP8ReceivedIsNotRecalled(t *testing.T) {
	l := example(t)
	for lot := range uint64(3) {
		recalled(t, l, lot+1, 1)
	}
	answered(t, "P8", l, api.OK, api.Receive, 4, 7, 9, 20)
	areRecalled(t, "P8", l, 1, 2, 3)
	supplied(t, "P8", l, 1, 9)
}
