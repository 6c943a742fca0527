package command

import (
	"encoding/binary"
	"testing"

	"larder/api"
)

// text writes a code and numbers as bytes, by the library's own means.
func text(code byte, numbers ...int64) string {
	b := []byte{code}
	for _, n := range numbers {
		b = binary.AppendUvarint(b, uint64(n))
	}
	return string(b)
}

// shapes: each command, with numbers that tell its fields apart, and how each
// of them is bounded.
var shapes = []struct {
	code   byte
	want   Command
	number []int64
	bounds string // i: 1 to MaxId, c: 1 to MaxCount, d: 0 to MaxDay, w: 0 to 3
}{
	{api.Day, Day{301}, []int64{301}, "d"},
	{api.Receive, Receive{301, 302, 303, 304}, []int64{301, 302, 303, 304}, "iicd"},
	{api.Split, Split{301, 302, 303}, []int64{301, 302, 303}, "iic"},
	{api.Merge, Merge{301, 302, 303}, []int64{301, 302, 303}, "iii"},
	{api.Order, Order{301, 302, 303, 304, 2}, []int64{301, 302, 303, 304, 2}, "iicdw"},
	{api.Cancel, Cancel{301}, []int64{301}, "i"},
	{api.Ship, Ship{301}, []int64{301}, "i"},
	{api.Recall, Recall{301, 302}, []int64{301, 302}, "ii"},
	{api.Release, Release{301, 302}, []int64{301, 302}, "ii"},
	{api.Scrap, Scrap{301, 302}, []int64{301, 302}, "ic"},
	{api.Look, Look{301}, []int64{301}, "i"},
	{api.Supply, Supply{301, 302}, []int64{301, 302}, "id"},
}

func TestReadEachCommand(t *testing.T) {
	for _, s := range shapes {
		c, ok := Read(text(s.code, s.number...))
		if !ok || c != s.want {
			t.Errorf("P4: code %d was read as %#v, %v, want %#v", s.code, c, ok, s.want)
			continue
		}
		if !c.InRange() {
			t.Errorf("P4: %#v is not in range", c)
		}
	}
}

func TestLoggedIsAllButWhatAsks(t *testing.T) {
	for _, s := range shapes {
		if got, want := Logged(s.want), s.code != api.Look && s.code != api.Supply; got != want {
			t.Errorf("P9: %#v is logged: %v, want %v", s.want, got, want)
		}
	}
}

func TestReadWantsAllBytesAndNoMore(t *testing.T) {
	for _, s := range shapes {
		whole := text(s.code, s.number...)
		for cut := range whole {
			if c, ok := Read(whole[:cut]); ok || c != nil {
				t.Errorf("P4: %x was read as %#v", whole[:cut], c)
			}
		}
		for last := range 256 {
			longer := whole + string([]byte{byte(last)})
			if c, ok := Read(longer); ok || c != nil {
				t.Errorf("P4: %x was read as %#v", longer, c)
			}
		}
	}
}

func TestReadUnknownCodes(t *testing.T) {
	for code := range 256 {
		if code >= api.Day && code <= api.Supply {
			continue
		}
		for count := range 6 {
			told := text(byte(code), []int64{1, 1, 1, 1, 1}[:count]...)
			if c, ok := Read(told); ok || c != nil {
				t.Errorf("P4: %x was read as %#v", told, c)
			}
		}
	}
}

func TestReadLongForms(t *testing.T) {
	for _, told := range []string{
		"\x01\x80\x00",
		"\x0b\x81\x00",
		"\x0c\x87\x00\x00",
		"\x0c\x07\x80\x00",
		"\x01\x80\x80\x80\x80\x80\x80\x80\x80\x80\x01",
	} {
		if c, ok := Read(told); ok || c != nil {
			t.Errorf("P4: %x was read as %#v", told, c)
		}
	}
}

// edges: the numbers that just may be, and those that just may not.
func edges(bound rune) (may, mayNot []int64) {
	const beyond = 1 << 31
	huge := int64(1<<63 - 1)
	switch bound {
	case 'd':
		return []int64{0, 1, beyond - 1}, []int64{beyond, huge}
	case 'w':
		return []int64{0, 1, 2, 3}, []int64{4, beyond, huge}
	}
	return []int64{1, 2, beyond - 1}, []int64{0, beyond, huge}
}

func TestInRangeAtEachEdge(t *testing.T) {
	for _, s := range shapes {
		for i, bound := range s.bounds {
			may, mayNot := edges(bound)
			try := func(n int64, want bool) {
				numbers := append([]int64{}, s.number...)
				numbers[i] = n
				c, ok := Read(text(s.code, numbers...))
				if !ok {
					t.Errorf("P4: code %d of %d was not read", s.code, numbers)
				} else if got := c.InRange(); got != want {
					t.Errorf("P4: %#v in range: %v, want %v", c, got, want)
				}
			}
			for _, n := range may {
				try(n, true)
			}
			for _, n := range mayNot {
				try(n, false)
			}
		}
	}
}
