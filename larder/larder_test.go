package larder_test

import (
	"encoding/binary"
	"encoding/hex"
	"math/rand"
	"strings"
	"testing"

	"larder/api"
	"larder/larder"
)

const beyond = 1 << 31 // just above MaxId, MaxCount and MaxDay

// text writes a code and numbers as bytes, by the library's own means.
func text(code byte, numbers ...uint64) string {
	b := []byte{code}
	for _, n := range numbers {
		b = binary.AppendUvarint(b, n)
	}
	return string(b)
}

// numbers reads what stands behind a reply's first byte.
func numbers(t *testing.T, reply string) []uint64 {
	t.Helper()
	if reply == "" || reply[0] != byte(api.OK) {
		t.Fatalf("P3: the reply %x has no numbers", reply)
	}
	var ns []uint64
	for rest := []byte(reply[1:]); len(rest) > 0; {
		n, size := binary.Uvarint(rest)
		if size <= 0 {
			t.Fatalf("P3: the reply %x breaks off", reply)
		}
		ns = append(ns, n)
		rest = rest[size:]
	}
	return ns
}

// told hands in commands and holds the replies against those wanted, in turn;
// both to the base 16.
func told(t *testing.T, promise string, l *larder.Larder, script ...string) {
	t.Helper()
	for i := 0; i+1 < len(script); i += 2 {
		command, err := hex.DecodeString(strings.ReplaceAll(script[i], " ", ""))
		if err != nil {
			t.Fatal(err)
		}
		want := strings.ReplaceAll(script[i+1], " ", "")
		if got := hex.EncodeToString([]byte(l.Handle(string(command)))); got != want {
			t.Errorf("%s: Handle(%s) = %s, want %s", promise, script[i], got, want)
		}
	}
}

// answered does one command and holds the error against the one wanted.
func answered(t *testing.T, promise string, l *larder.Larder, want api.Errno, code byte, ns ...uint64) {
	t.Helper()
	if got := l.Handle(text(code, ns...)); got != string([]byte{byte(want)}) {
		t.Errorf("%s: command %d of %d answered %x, want %02x", promise, code, ns, got, want)
	}
}

// example is the larder of the document's examples.
func example(t *testing.T) *larder.Larder {
	t.Helper()
	l := larder.New()
	told(t, "P3", l, "01 0a", "00", "02 01 07 05 14", "00", "02 02 07 ac 02 0f", "00", "03 02 03 64", "00")
	return l
}

// seen is all that Look and Supply tell of the lots 1 to 60 and the goods 1 to
// 9; by the gates, as long as some lot keeps, of today too.
func seen(l *larder.Larder) string {
	var b strings.Builder
	for lot := range uint64(60) {
		b.WriteString(l.Handle(text(api.Look, lot+1)) + "|")
	}
	for goods := range uint64(9) {
		for gate := range uint64(40) {
			b.WriteString(l.Handle(text(api.Supply, goods+1, gate)) + "|")
		}
	}
	return b.String()
}

// junk makes strings that are often nearly commands.
func junk(r *rand.Rand) string {
	b := make([]byte, r.Intn(14))
	for i := range b {
		b[i] = byte(r.Intn(256))
		if r.Intn(3) > 0 {
			b[i] = byte(r.Intn(16))
		}
	}
	return string(b)
}

func TestP1EveryCallEnds(t *testing.T) {
	opened, took := larder.Open("no log")
	if opened == nil || took != 0 {
		t.Fatalf("P1: Open of no log: %v, %d", opened, took)
	}
	larders := []*larder.Larder{larder.New(), example(t), opened}
	var texts []string
	for a := range 256 {
		texts = append(texts, string([]byte{byte(a)}))
		for b := range 256 {
			texts = append(texts, string([]byte{byte(a), byte(b)}))
		}
	}
	r := rand.New(rand.NewSource(1))
	for range 20000 {
		texts = append(texts, junk(r))
	}
	texts = append(texts, strings.Repeat("\xff", 100000), strings.Repeat("\x00", 100000), "\x01"+strings.Repeat("\x80", 100000))
	for _, l := range larders {
		for _, s := range texts {
			if reply := l.Handle(s); reply == "" || reply[0] > byte(api.ErrRecall) {
				t.Errorf("P1: Handle(%x) = %x", s, reply)
			}
		}
		l.Compact()
		l.Log()
	}
}

func TestP1ErrorsChangeNothing(t *testing.T) {
	l := example(t)
	answered(t, "P1", l, api.OK, api.Receive, 4, 8, 9, 30)
	answered(t, "P1", l, api.OK, api.Receive, 5, 7, api.MaxCount, 30)
	before := seen(l)
	refused := []string{
		"", "\x0d", "\x01", "\x01\x0b\x00", "\x01\x8b\x00",
		text(api.Day, 9), text(api.Day, beyond),
		text(api.Receive, 1, 7, 5, 20), text(api.Receive, 6, 7, 0, 20), text(api.Receive, 6, 7, 5, beyond),
		text(api.Split, 9, 6, 1), text(api.Split, 2, 3, 1), text(api.Split, 2, 6, 201), text(api.Split, 2, 6, 0),
		text(api.Merge, 1, 9, 6), text(api.Merge, 9, 1, 6), text(api.Merge, 1, 1, 6), text(api.Merge, 1, 4, 6),
		text(api.Merge, 1, 2, 3), text(api.Merge, 1, 5, 6), text(api.Merge, 1, 2, 0),
		text(api.Scrap, 1, 6), text(api.Scrap, 9, 1), text(api.Scrap, 1, 0),
		text(api.Look, 9), text(api.Supply, 0, 0),
	}
	for _, s := range refused {
		if reply := l.Handle(s); len(reply) != 1 || reply[0] == byte(api.OK) {
			t.Errorf("P1: Handle(%x) = %x, want an error alone", s, reply)
		}
		if seen(l) != before {
			t.Fatalf("P1: Handle(%x) changed the store", s)
		}
	}
	answered(t, "P1", l, api.OK, api.Receive, 6, 7, 5, 20)
	if place := numbers(t, l.Handle(text(api.Look, 6)))[2]; place != 6 {
		t.Errorf("P1: refused commands counted as comings: lot 6 has the place %d", place)
	}
}

func TestP2LarderStandsAlone(t *testing.T) {
	r := rand.New(rand.NewSource(2))
	var script []string
	for range 300 {
		script = append(script, anyCommand(r, []uint64{1, 2, 3, 4, 5, 6, 7, 8}))
	}
	alone := larder.New()
	var want []string
	for _, s := range script {
		want = append(want, alone.Handle(s))
	}
	one, other := larder.New(), larder.New()
	for i, s := range script {
		if got := one.Handle(s); got != want[i] {
			t.Fatalf("P2: Handle(%x) = %x beside another larder, %x alone", s, got, want[i])
		}
		other.Handle(script[len(script)-1-i])
	}
	told(t, "P2", larder.New(), "0b 01", "04", "01 00", "00", "0c 07 00", "00 00 00")
}

func TestP3New(t *testing.T) {
	l := larder.New()
	if log := l.Log(); log != "" {
		t.Errorf("P3: the log of New is %x", log)
	}
	for lot := range uint64(40) {
		answered(t, "P3", l, api.ErrLot, api.Look, lot+1)
	}
	told(t, "P3", l, "0c 01 00", "00 00 00", "01 00", "00", "02 01 07 01 01", "00", "0c 07 00", "00 01 01", "0b 01", "00 07 01 01 01 01 00 00 00 00 00")
}

// Only Order, Recall, Look and Supply have numbers behind OK.
func TestP3RepliesAreOneByte(t *testing.T) {
	l := larder.New()
	answered(t, "P3", l, api.OK, api.Day, 5)
	answered(t, "P3", l, api.OK, api.Receive, 1, 7, 5, 20)
	answered(t, "P3", l, api.OK, api.Split, 1, 2, 2)
	answered(t, "P3", l, api.OK, api.Merge, 1, 2, 3)
	answered(t, "P3", l, api.OK, api.Scrap, 3, 1)
	for _, code := range []byte{api.Cancel, api.Ship} {
		if ns := numbers(t, l.Handle(text(api.Order, 1, 7, 1, 0, 0))); len(ns) != 3 {
			t.Errorf("P3: Order answered %d numbers", len(ns))
		}
		answered(t, "P3", l, api.OK, code, 1)
	}
	if ns := numbers(t, l.Handle(text(api.Recall, 3, 1))); len(ns) != 1 {
		t.Errorf("P3: Recall answered %d numbers", len(ns))
	}
	answered(t, "P3", l, api.OK, api.Release, 3, 1)
	answered(t, "P3", l, api.ErrLot, api.Look, 4)
	if ns := numbers(t, l.Handle(text(api.Look, 3))); len(ns) != 10 {
		t.Errorf("P3: Look answered %d numbers", len(ns))
	}
	if ns := numbers(t, l.Handle(text(api.Supply, 7, 0))); len(ns) != 2 {
		t.Errorf("P3: Supply answered %d numbers", len(ns))
	}
}

func TestExample1(t *testing.T) {
	told(t, "P5", example(t),
		"0b 02", "00 07 0f 02 ac 02 c8 01 00 00 00 64 00",
		"0b 09", "04",
		"0c 07 04", "00 03 b1 02",
		"0c 07 05", "00 01 05")
}

func TestExample5(t *testing.T) {
	told(t, "P4", example(t),
		"", "01", "0d", "01", "01", "01", "01 80 00", "01", "01 0a 00", "01", "0b 80", "01",
		"01 09", "03",
		"0a 01 00", "02", "0a 01 06", "07",
		"04 01 01 05", "08", "04 01 02 03", "05", "04 01 02 04", "00",
		"0b 04", "00 07 0f 04 cd 01 cd 01 00 00 00 00 00")
}

func TestP4BytesThatAreNoCommand(t *testing.T) {
	l := example(t)
	counts := map[byte]int{1: 1, 2: 4, 3: 3, 4: 3, 5: 5, 6: 1, 7: 1, 8: 2, 9: 2, 10: 2, 11: 1, 12: 2}
	for code := range 256 {
		for count := range 7 {
			if counts[byte(code)] == count && count > 0 {
				continue
			}
			// Numbers that may not be: that there are too few or too many is named first.
			answered(t, "P4", l, api.ErrRequest, byte(code), make([]uint64, count)...)
		}
	}
	told(t, "P4", l,
		"0b 81 00", "01", "0b 80 80 80 80 80 80 80 80 80 01", "01", "0b ff ff ff ff ff ff ff ff ff 7f", "01",
		"0b ff ff ff ff ff ff ff ff 7f", "02", "0b 80 80 80 80 80 80 80 80 01", "02", "02 00 07 05 80", "01")
}

// The numbers are looked at ahead of all that the store knows; for each
// command, a row that may be done, and a letter for each number's bounds.
func TestP4Numbers(t *testing.T) {
	rows := []struct {
		code   byte
		ns     []uint64
		bounds string
	}{
		{api.Day, []uint64{10}, "d"},
		{api.Receive, []uint64{1, 7, 5, 20}, "iiid"},
		{api.Split, []uint64{9, 1, 1}, "iii"},
		{api.Merge, []uint64{9, 9, 1}, "iii"},
		{api.Order, []uint64{1, 7, 5, 0, 0}, "iiidw"},
		{api.Cancel, []uint64{1}, "i"},
		{api.Ship, []uint64{1}, "i"},
		{api.Recall, []uint64{1, 1}, "ii"},
		{api.Release, []uint64{1, 1}, "ii"},
		{api.Scrap, []uint64{9, 1}, "ii"},
		{api.Look, []uint64{9}, "i"},
		{api.Supply, []uint64{7, 0}, "id"},
	}
	l := example(t)
	for _, row := range rows {
		for i, bound := range row.bounds {
			for _, n := range map[rune][]uint64{'d': {beyond, 1<<63 - 1}, 'i': {0, beyond, 1<<63 - 1}, 'w': {4, beyond}}[bound] {
				ns := append([]uint64{}, row.ns...)
				ns[i] = n
				answered(t, "P4", l, api.ErrNumber, row.code, ns...)
			}
		}
	}
}

func TestP4GreatestNumbers(t *testing.T) {
	l := larder.New()
	answered(t, "P4", l, api.OK, api.Day, api.MaxDay)
	answered(t, "P4", l, api.OK, api.Receive, api.MaxId, api.MaxId, api.MaxCount, api.MaxDay)
	answered(t, "P4", l, api.ErrLot, api.Look, api.MaxId-1)
	told(t, "P5", l,
		"0b ff ff ff ff 07", "00 ff ff ff ff 07 ff ff ff ff 07 01 ff ff ff ff 07 ff ff ff ff 07 00 00 00 00 00",
		"0c ff ff ff ff 07 ff ff ff ff 07", "00 00 00", "0c ff ff ff ff 07 00", "00 00 00")
}

func TestP4Day(t *testing.T) {
	l := larder.New()
	answered(t, "P4", l, api.OK, api.Day, 0)
	answered(t, "P4", l, api.OK, api.Day, 10)
	answered(t, "P4", l, api.OK, api.Day, 10)
	answered(t, "P4", l, api.ErrClock, api.Day, 9)
	answered(t, "P4", l, api.ErrClock, api.Day, 0)
	answered(t, "P4", l, api.OK, api.Day, 11)
	answered(t, "P4", l, api.ErrClock, api.Day, 10)
}

func TestP4Split(t *testing.T) {
	l := example(t)
	answered(t, "P4", l, api.ErrLot, api.Split, 9, 1, 1)
	answered(t, "P4", l, api.ErrTwice, api.Split, 1, 1, 6)
	answered(t, "P4", l, api.ErrTwice, api.Split, 1, 2, 6)
	answered(t, "P4", l, api.ErrShort, api.Split, 1, 4, 6)
	answered(t, "P4", l, api.OK, api.Split, 1, 4, 5)
	answered(t, "P4", l, api.ErrShort, api.Split, 1, 5, 1)
	told(t, "P5", l, "0b 01", "00 07 14 01 05 00 00 00 00 05 00", "0b 04", "00 07 14 04 05 05 00 00 00 00 00")
}

func TestP4Merge(t *testing.T) {
	l := example(t)
	answered(t, "P4", l, api.OK, api.Receive, 4, 8, 5, 40)
	answered(t, "P4", l, api.ErrLot, api.Merge, 9, 9, 1)
	answered(t, "P4", l, api.ErrLot, api.Merge, 9, 4, 1)
	answered(t, "P4", l, api.ErrLot, api.Merge, 4, 9, 1)
	answered(t, "P4", l, api.ErrGoods, api.Merge, 1, 1, 1)
	answered(t, "P4", l, api.ErrGoods, api.Merge, 1, 4, 1)
	answered(t, "P4", l, api.ErrGoods, api.Merge, 4, 1, 5)
	answered(t, "P4", l, api.ErrTwice, api.Merge, 1, 2, 1)
	answered(t, "P4", l, api.ErrTwice, api.Merge, 1, 2, 4)
	answered(t, "P4", l, api.OK, api.Merge, 1, 2, 5)
	answered(t, "P4", l, api.ErrTwice, api.Merge, 1, 2, 5)
	answered(t, "P4", l, api.ErrShort, api.Merge, 1, 2, 6)
	// One that has nothing Free can be merged with one that has.
	answered(t, "P4", l, api.OK, api.Merge, 1, 3, 6)
	told(t, "P5", l,
		"0b 05", "00 07 0f 05 cd 01 cd 01 00 00 00 00 00",
		"0b 06", "00 07 0f 06 64 64 00 00 00 00 00",
		"0b 01", "00 07 14 01 05 00 00 00 00 05 00",
		"0b 03", "00 07 0f 03 64 00 00 00 00 64 00")
}

func TestP4MergeAboveMaxCount(t *testing.T) {
	l := larder.New()
	answered(t, "P4", l, api.OK, api.Receive, 1, 7, api.MaxCount, 9)
	answered(t, "P4", l, api.OK, api.Receive, 2, 7, 2, 8)
	answered(t, "P4", l, api.ErrNumber, api.Merge, 1, 2, 3)
	answered(t, "P4", l, api.ErrTwice, api.Merge, 1, 2, 2)
	answered(t, "P4", l, api.OK, api.Scrap, 1, 1)
	answered(t, "P4", l, api.ErrNumber, api.Merge, 2, 1, 3)
	answered(t, "P4", l, api.OK, api.Scrap, 2, 1)
	answered(t, "P4", l, api.OK, api.Merge, 2, 1, 3)
	told(t, "P5", l, "0b 03", "00 07 08 03 ff ff ff ff 07 ff ff ff ff 07 00 00 00 00 00")
}

func TestP4Scrap(t *testing.T) {
	l := example(t)
	answered(t, "P4", l, api.ErrLot, api.Scrap, 9, api.MaxCount)
	answered(t, "P4", l, api.ErrShort, api.Scrap, 2, 201)
	answered(t, "P4", l, api.OK, api.Scrap, 2, 50)
	answered(t, "P4", l, api.ErrShort, api.Scrap, 2, 151)
	answered(t, "P4", l, api.OK, api.Scrap, 2, 150)
	answered(t, "P4", l, api.ErrShort, api.Scrap, 2, 1)
	told(t, "P5", l, "0b 02", "00 07 0f 02 ac 02 00 00 00 c8 01 64 00")
}

func TestP4Full(t *testing.T) {
	l := larder.New()
	for n := range uint64(api.MaxLots) {
		answered(t, "P4", l, api.OK, api.Receive, n+1, 7, 5, 20)
	}
	answered(t, "P4", l, api.ErrFull, api.Receive, 31, 7, 5, 20)
	answered(t, "P4", l, api.ErrTwice, api.Receive, 30, 7, 5, 20)
	answered(t, "P4", l, api.ErrFull, api.Split, 1, 31, 6)
	answered(t, "P4", l, api.ErrTwice, api.Split, 1, 30, 6)
	answered(t, "P4", l, api.ErrLot, api.Split, 31, 31, 6)
	answered(t, "P4", l, api.OK, api.Scrap, 1, 5)
	answered(t, "P4", l, api.OK, api.Scrap, 2, 5)
	answered(t, "P4", l, api.ErrFull, api.Merge, 1, 2, 31)
	answered(t, "P4", l, api.ErrTwice, api.Merge, 1, 2, 30)
	answered(t, "P4", l, api.ErrGoods, api.Merge, 1, 1, 31)
	told(t, "P5", l, "0c 07 00", "00 1c 8c 01")
}

func TestP5Supply(t *testing.T) {
	l := larder.New()
	told(t, "P5", l,
		"02 01 07 05 00", "00", "0c 07 00", "00 00 00", // it expires today
		"02 02 07 06 01", "00", "0c 07 00", "00 01 06", "0c 07 01", "00 00 00",
		"02 03 08 07 01", "00", "0c 07 00", "00 01 06", "0c 08 00", "00 01 07", "0c 09 00", "00 00 00",
		"02 04 07 08 03", "00", "0c 07 00", "00 02 0e", "0c 07 02", "00 01 08", "0c 07 03", "00 00 00",
		"01 01", "00", "0c 07 00", "00 01 08", "0c 07 01", "00 01 08", "0c 07 02", "00 00 00",
		"0a 04 08", "00", "0c 07 00", "00 00 00")
}

// The sum of what lots have Free can be above MaxCount.
func TestP5SupplyOfMuch(t *testing.T) {
	l := larder.New()
	for n := range uint64(api.MaxLots) {
		answered(t, "P5", l, api.OK, api.Receive, n+1, 7, api.MaxCount, api.MaxDay)
	}
	ns := numbers(t, l.Handle(text(api.Supply, 7, api.MaxDay-1)))
	if len(ns) != 2 || ns[0] != api.MaxLots || ns[1] != api.MaxLots*api.MaxCount {
		t.Errorf("P5: Supply = %d", ns)
	}
}
