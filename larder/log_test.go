package larder_test

import (
	"encoding/binary"
	"encoding/hex"
	"hash/crc32"
	"maps"
	"math/bits"
	"math/rand"
	"slices"
	"strings"
	"testing"

	"larder/api"
	"larder/larder"
)

// checkOf reckons the document's check by the library's: that takes the bits
// of each byte, and of what is left, the other way round.
func checkOf(counted string) string {
	b := []byte(counted)
	for i := range b {
		b[i] = bits.Reverse8(b[i])
	}
	k := bits.Reverse32(crc32.Checksum(b, crc32.MakeTable(crc32.Castagnoli)))
	return string(binary.BigEndian.AppendUint32(nil, k))
}

// framed is the frame of a command.
func framed(command string) string {
	counted := string(binary.AppendUvarint(nil, uint64(len(command)))) + command
	return counted + checkOf(counted)
}

// of16 makes bytes of figures to the base 16.
func of16(t *testing.T, figures string) string {
	t.Helper()
	b, err := hex.DecodeString(strings.ReplaceAll(figures, " ", ""))
	if err != nil {
		t.Fatal(err)
	}
	return string(b)
}

// logged holds a larder's log against the one wanted.
func logged(t *testing.T, promise string, l *larder.Larder, want string) {
	t.Helper()
	if got := l.Log(); got != want {
		t.Fatalf("%s: the log is %x, want %x", promise, got, want)
	}
}

// exampleFrames are those of the larder of the document's examples.
func exampleFrames() string {
	return framed("\x01\x0a") + framed("\x02\x01\x07\x05\x14") + framed("\x02\x02\x07\xac\x02\x0f") + framed("\x03\x02\x03\x64")
}

// exampleState is the state of that larder, as example 7 has it.
func exampleState(t *testing.T) string {
	t.Helper()
	return of16(t, "0d 0a 03 03"+"01 07 14 01 05 00 00 00 00 05"+"02 07 0f 02 c8 01 00 00 00 00 ac 02"+"03 07 0f 03 64 00 00 00 01 02 64"+"00"+"00")
}

func TestP9CheckOfTheExample(t *testing.T) {
	if got := checkOf("123456789"); got != "\x05\x44\x0f\x15" {
		t.Fatalf("P9: the tests' own check of 123456789 is %x", got)
	}
}

func TestP9Frames(t *testing.T) {
	l := example(t)
	logged(t, "P9", l, exampleFrames())
	if log := l.Log(); !strings.HasPrefix(log, "\x02\x01\x0a") || len(log) != 37 {
		t.Errorf("P9: the log of example 6 is %x", log)
	}
}

// Each command that changes the store has its frame, and none but these.
func TestP9EachCommand(t *testing.T) {
	l := larder.New()
	want := ""
	for _, c := range []string{
		text(api.Day, 0), text(api.Day, 10), text(api.Day, 10),
		text(api.Receive, 1, 7, 300, 20), text(api.Receive, api.MaxId, 7, 5, 20),
		text(api.Split, 1, 2, 100), text(api.Merge, 1, 2, 3), text(api.Scrap, 3, 1),
		text(api.Order, 1, 7, 2, 0, 0), text(api.Order, 2, 7, 900, 1, api.First), text(api.Cancel, 2),
		text(api.Recall, 3, 1), text(api.Recall, 3, api.MaxId), text(api.Release, 3, 1), text(api.Ship, 1),
	} {
		if reply := l.Handle(c); reply[0] != byte(api.OK) {
			t.Fatalf("P9: Handle(%x) = %x", c, reply)
		}
		want += framed(c)
		logged(t, "P9", l, want)
		for _, question := range []string{text(api.Look, 1), text(api.Look, 99), text(api.Supply, 7, 0), text(api.Supply, 7, beyond)} {
			l.Handle(question)
		}
		logged(t, "P9", l, want)
	}
}

func TestP9ErrorsLeaveNoTrace(t *testing.T) {
	l := example(t)
	for _, c := range []string{
		"", "\x00", "\x0d", exampleState(t), "\x0e\x01", "\x01", "\x01\x0b\x00", "\x01\x8b\x00", framed("\x01\x0b"), strings.Repeat("\xff", 300),
		text(api.Day, 9), text(api.Day, beyond),
		text(api.Receive, 1, 7, 5, 20), text(api.Receive, 6, 7, 0, 20),
		text(api.Split, 9, 6, 1), text(api.Split, 2, 3, 1), text(api.Split, 2, 6, 201),
		text(api.Merge, 1, 9, 6), text(api.Merge, 1, 1, 6), text(api.Merge, 1, 2, 3),
		text(api.Order, 1, 7, 999, 0, api.Whole), text(api.Order, 1, 8, 1, 0, 0), text(api.Order, 1, 7, 1, 0, 4),
		text(api.Cancel, 1), text(api.Ship, 1),
		text(api.Recall, 9, 1), text(api.Release, 1, 1),
		text(api.Scrap, 1, 6), text(api.Scrap, 9, 1), text(api.Look, 9), text(api.Supply, 0, 0),
	} {
		if reply := l.Handle(c); reply[0] == byte(api.OK) {
			t.Fatalf("P9: Handle(%x) = %x", c, reply)
		}
		logged(t, "P9", l, exampleFrames())
	}
}

// A log that was told stays as it is, whatever is done behind it.
func TestP9ToldLogsStay(t *testing.T) {
	l := larder.New()
	var logs []string
	for day := range uint64(200) {
		answered(t, "P9", l, api.OK, api.Day, day)
		logs = append(logs, l.Log())
	}
	l.Compact()
	answered(t, "P9", l, api.OK, api.Day, 999)
	want := ""
	for day, log := range logs {
		want += framed(text(api.Day, uint64(day)))
		if log != want {
			t.Fatalf("P9: the log of day %d has become %x", day, log)
		}
	}
}

func TestExample7(t *testing.T) {
	l := example(t)
	l.Compact()
	logged(t, "P10", l, framed(exampleState(t)))
}

func TestP10EmptyStore(t *testing.T) {
	l := larder.New()
	l.Compact()
	logged(t, "P10", l, framed("\x0d\x00\x00\x00\x00\x00"))
	l.Compact()
	logged(t, "P10", l, framed("\x0d\x00\x00\x00\x00\x00"))
	answered(t, "P10", l, api.OK, api.Day, 3)
	logged(t, "P10", l, framed("\x0d\x00\x00\x00\x00\x00")+framed("\x01\x03"))
}

func TestP10OrdersAndRecalls(t *testing.T) {
	l := example(t)
	l.Compact()
	log := framed(exampleState(t))
	for _, c := range []string{
		text(api.Recall, 2, 9), text(api.Recall, 1, 300), text(api.Recall, 1, 4),
		text(api.Release, 2, 9), text(api.Recall, 3, 1),
		text(api.Order, 8, 7, 1, 0, 0), // lots 1 and 3 are recalled, lot 2 is not
		text(api.Release, 1, 4), text(api.Release, 1, 300), text(api.Release, 3, 1),
		text(api.Order, 7, 7, 203, 0, 0), text(api.Order, 9, 7, 1, 0, 0), text(api.Ship, 9),
		text(api.Recall, 2, 9), text(api.Recall, 1, 300), text(api.Recall, 1, 4),
	} {
		if reply := l.Handle(c); reply[0] != byte(api.OK) {
			t.Fatalf("P10: Handle(%x) = %x", c, reply)
		}
		log += framed(c)
		logged(t, "P10", l, log)
	}
	l.Compact()
	logged(t, "P10", l, framed(of16(t, "0d 0a 03 03"+
		"01 07 14 01 05 00 00 00 00 05"+
		"02 07 0f 02 00 c8 01 00 00 00 ac 02"+
		"03 07 0f 03 5f 04 01 00 01 02 64"+
		"02 07 07 02 02 c7 01 03 04 08 07 01 02 01"+
		"03 01 04 01 ac 02 02 09")))
}

// Parents are told rising, whichever way they were merged, those that gave
// nothing too; and lots by their numbers, not by their coming.
func TestP10Parents(t *testing.T) {
	for _, merge := range []string{text(api.Merge, 9, 2, 5), text(api.Merge, 2, 9, 5)} {
		l := larder.New()
		answered(t, "P10", l, api.OK, api.Receive, 9, 7, 4, 20)
		answered(t, "P10", l, api.OK, api.Receive, 2, 7, 3, 19)
		answered(t, "P10", l, api.OK, api.Scrap, 2, 3)
		if reply := l.Handle(merge); reply != "\x00" {
			t.Fatalf("P10: Handle(%x) = %x", merge, reply)
		}
		l.Compact()
		logged(t, "P10", l, framed(of16(t, "0d 00 03 03"+
			"02 07 13 02 00 00 00 03 00 03"+
			"05 07 13 03 04 00 00 00 02 02 00 09 04"+
			"09 07 14 01 00 00 00 00 00 04"+
			"00 00")))
	}
}

// The state is longer than 127 bytes, so its count has two.
func TestP10FullStore(t *testing.T) {
	l := larder.New()
	answered(t, "P10", l, api.OK, api.Day, api.MaxDay-1)
	want := text(api.State, api.MaxDay-1, api.MaxLots, api.MaxLots)
	for i := range uint64(api.MaxLots) {
		lot := uint64(api.MaxId - api.MaxLots + 1 + i)
		answered(t, "P10", l, api.OK, api.Receive, lot, api.MaxId, api.MaxCount, api.MaxDay)
		want += text(0, lot, api.MaxId, api.MaxDay, i+1, api.MaxCount, 0, 0, 0, 0, api.MaxCount)[1:]
	}
	l.Compact()
	want += "\x00\x00"
	logged(t, "P10", l, framed(want))
	if opened, took := larder.Open(framed(want)); took != len(framed(want)) || seen(opened) != seen(l) {
		t.Errorf("P11: of %d bytes of a full store %d are taken", len(framed(want)), took)
	}
}

// Compact changes nothing but the log: neither what is told, nor what further
// commands answer.
func TestP10ChangesNothingElse(t *testing.T) {
	for seed := range int64(40) {
		r := rand.New(rand.NewSource(seed))
		plain, compacted := larder.New(), larder.New()
		for range 120 {
			c := anyCommand(r, []uint64{1, 2, 3, 4, 5, 6, 7, 8})
			if a, b := plain.Handle(c), compacted.Handle(c); a != b {
				t.Fatalf("P10: Handle(%x) = %x behind Compact, %x without", c, b, a)
			}
			if r.Intn(6) == 0 {
				compacted.Compact()
			}
		}
		if seen(plain) != seen(compacted) {
			t.Fatal("P10: Compact changed the store")
		}
		plain.Compact()
		compacted.Compact()
		logged(t, "P10", compacted, plain.Log())
	}
}

// Whatever is done, the log is the frames of what answered OK and does not
// only ask, behind the last state.
func TestP9Walk(t *testing.T) {
	for seed := range int64(40) {
		r := rand.New(rand.NewSource(seed))
		l := larder.New()
		want := ""
		for range 200 {
			c := anyCommand(r, slices.Sorted(maps.Keys(looks(t, l))))
			if l.Handle(c)[0] == byte(api.OK) && c[0] < api.Look {
				want += framed(c)
			}
			logged(t, "P9", l, want)
			if r.Intn(50) == 0 {
				l.Compact()
				want = l.Log()
				if c := frameOf(t, want); c[0] != api.State || framed(c) != want {
					t.Fatalf("P10: Compact made the log %x", want)
				}
			}
		}
	}
}

// frameOf is the command of a log of one frame.
func frameOf(t *testing.T, log string) string {
	t.Helper()
	size, bytes := binary.Uvarint([]byte(log))
	if bytes <= 0 || uint64(len(log)) != uint64(bytes)+size+4 {
		t.Fatalf("P10: the log is not one frame: %x", log)
	}
	return log[bytes : len(log)-4]
}
