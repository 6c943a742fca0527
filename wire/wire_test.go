package wire

import (
	"encoding/binary"
	"math"
	"testing"
)

// broken says whether reading one number and the end of a text panics.
func broken(text string) (is bool) {
	defer func() {
		is = recover() != nil
	}()
	r := NewReader(text)
	r.Number()
	r.End()
	return false
}

func TestNumbersThereAndBack(t *testing.T) {
	numbers := []int64{math.MaxInt64, math.MaxInt64 - 1}
	for shift := range 63 {
		n := int64(1) << shift
		numbers = append(numbers, n-1, n, n+1)
	}
	for _, n := range numbers {
		text := string(Append(nil, n))
		if want := string(binary.AppendUvarint(nil, uint64(n))); text != want {
			t.Errorf("Append(%d) = %x, want %x", n, text, want)
		}
		r := NewReader(text + "!")
		if got := r.Number(); got != n {
			t.Errorf("Number of %x = %d, want %d", text, got, n)
		}
		if b := r.Byte(); b != '!' {
			t.Errorf("Number of %x left off at %q", text, b)
		}
	}
}

func TestAppendKeepsWhatIsThere(t *testing.T) {
	if got := string(Append([]byte{9}, 300)); got != "\x09\xac\x02" {
		t.Errorf("Append = %x", got)
	}
}

func TestBrokenNumbers(t *testing.T) {
	for _, text := range []string{
		"",                                     // nothing
		"\x80",                                 // no last byte
		"\xff\xff",                             // no last byte
		"\x80\x00",                             // 0 in two bytes
		"\x81\x00",                             // 1 in two bytes
		"\x80\x80\x80\x80\x80\x80\x80\x80\x00", // 0 in nine bytes
		"\x80\x80\x80\x80\x80\x80\x80\x80\x80\x01", // ten bytes
		"\xff\xff\xff\xff\xff\xff\xff\xff\xff\x7f", // ten bytes
		"\x00\x00", // two numbers
	} {
		if !broken(text) {
			t.Errorf("%x was read as a number", text)
		}
	}
	for _, text := range []string{"\x00", "\x7f", "\x80\x01", "\xff\xff\xff\xff\xff\xff\xff\xff\x7f", "\x80\x80\x80\x80\x80\x80\x80\x80\x01"} {
		if broken(text) {
			t.Errorf("%x was not read as a number", text)
		}
	}
}
