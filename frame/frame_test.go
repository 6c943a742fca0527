package frame

import (
	"encoding/binary"
	"math/rand"
	"strings"
	"testing"
)

// exponents are those of the document's polynomial.
var exponents = []int{32, 28, 27, 26, 25, 23, 22, 20, 19, 18, 14, 13, 11, 10, 9, 8, 6, 0}

// divided reckons the check by the document's words: bits in a row, divided by
// hand.
func divided(text string) string {
	var row []byte
	for _, b := range []byte(text) {
		for bit := 7; bit >= 0; bit-- {
			row = append(row, b>>bit&1)
		}
	}
	row = append(row, make([]byte, 32)...)
	for i := range 32 {
		row[i] ^= 1
	}
	for i := 0; i+32 < len(row); i++ {
		if row[i] == 0 {
			continue
		}
		for _, e := range exponents {
			row[i+32-e] ^= 1
		}
	}
	var left uint32
	for _, bit := range row[len(row)-32:] {
		left = left<<1 | uint32(bit^1)
	}
	return string(binary.BigEndian.AppendUint32(nil, left))
}

// framed is a command's frame, reckoned by other means than the program's.
func framed(command string) string {
	counted := string(binary.AppendUvarint(nil, uint64(len(command)))) + command
	return counted + divided(counted)
}

// first answers what First does, or false if it panics.
func first(log string) (command string, ok bool) {
	defer func() {
		if recover() != nil {
			command, ok = "", false
		}
	}()
	return First(log), true
}

// drawn makes bytes of all kinds.
func drawn(r *rand.Rand, size int) string {
	b := make([]byte, size)
	for i := range b {
		b[i] = byte(r.Intn(256))
	}
	return string(b)
}

func TestCheckOfTheExample(t *testing.T) {
	for name, got := range map[string]string{"check": check("123456789"), "the test's own": divided("123456789")} {
		if got != "\x05\x44\x0f\x15" {
			t.Errorf("P9: %s of 123456789 is %x", name, got)
		}
	}
}

// Below four bytes noughts behind are turned over, too.
func TestCheckIsWhatIsLeft(t *testing.T) {
	r := rand.New(rand.NewSource(1))
	for size := range 60 {
		texts := []string{strings.Repeat("\x00", size), strings.Repeat("\xff", size)}
		for range 20 {
			texts = append(texts, drawn(r, size))
		}
		for _, text := range texts {
			if got, want := check(text), divided(text); got != want {
				t.Errorf("P9: the check of %x is %x, want %x", text, got, want)
			}
		}
	}
}

func TestFramesThereAndBack(t *testing.T) {
	r := rand.New(rand.NewSource(2))
	for _, size := range []int{0, 1, 2, 31, 126, 127, 128, 129, 300, 16383, 16384} {
		command := drawn(r, size)
		if got, want := string(Append([]byte("ahead"), command)), "ahead"+framed(command); got != want {
			t.Fatalf("P9: the frame of %d bytes is %x, want %x", size, got, want)
		}
		for _, behind := range []string{"", "\x00", "!", framed("other")} {
			if got, ok := first(framed(command) + behind); !ok || got != command {
				t.Errorf("P11: of the frame of %d bytes came %x, %v", size, got, ok)
			}
		}
	}
}

func TestNoFrameStandsInPartOfOne(t *testing.T) {
	r := rand.New(rand.NewSource(3))
	for _, size := range []int{0, 1, 5, 127, 128, 400} {
		whole := framed(drawn(r, size))
		for cut := range whole {
			if got, ok := first(whole[:cut]); ok {
				t.Errorf("P11: of %d bytes of %d came %x", cut, len(whole), got)
			}
		}
	}
}

func TestNoFrameStandsWithABitTurnedOver(t *testing.T) {
	whole := framed("\x02\x02\x07\xac\x02\x0f")
	for i := range whole {
		for bit := range 8 {
			b := []byte(whole)
			b[i] ^= 1 << bit
			if got, ok := first(string(b) + whole); ok {
				t.Errorf("P11: of %x came %x", b, got)
			}
		}
	}
}

// The count of bytes is a number that is none, or greater than all that is
// there; the checks are right.
func TestNoFrameStandsBehindABrokenCount(t *testing.T) {
	for _, counted := range []string{
		"\x80\x00", "\x82\x00\x01\x0a", "\x82\x80\x00\x01\x0a",
		"\x03\x01\x0a", "\x7f\x01\x0a",
		"\xff\xff\xff\xff\x07\x01\x0a",
		"\xff\xff\xff\xff\xff\xff\xff\xff\x7f\x01\x0a",
		"\x82\x80\x80\x80\x80\x80\x80\x80\x80\x01\x01\x0a",
		"\xff\xff\xff\xff\xff\xff\xff\xff\xff\x01",
		"\xff\xff\xff\xff\xff\xff\xff\xff\xff\x7f",
		"\x80",
	} {
		if got, ok := first(counted + divided(counted)); ok {
			t.Errorf("P11: behind %x came %x", counted, got)
		}
	}
}

// A check with its low byte first, or of the command alone, is none.
func TestNoFrameStandsWithAnotherCheck(t *testing.T) {
	k := divided("\x02\x01\x0a")
	for _, other := range []string{
		string([]byte{k[3], k[2], k[1], k[0]}), divided("\x01\x0a"), divided("\x02\x01\x0b"),
		"\x00\x00\x00\x00", "\xff\xff\xff\xff", string([]byte{^k[0], ^k[1], ^k[2], ^k[3]}),
	} {
		if got, ok := first("\x02\x01\x0a" + other); ok {
			t.Errorf("P11: with the check %x came %x", other, got)
		}
	}
	if got, ok := first("\x02\x01\x0a" + k); !ok || got != "\x01\x0a" {
		t.Errorf("P11: with the check %x came %x, %v", k, got, ok)
	}
}
