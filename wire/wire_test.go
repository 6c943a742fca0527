package wire

import (
	"encoding/binary"
	"math"
	"testing"
)

// broken says whether reading one number and the end of a text panics.
func broken(text string) (is bool) {
	defer func() {
		is = recover() != nil
	}()
	r := NewReader(text)
	r.Number()
	r.End()
	return false
}

func TestNumbersThereAndBack(t *testing.T) {
	numbers := []int64{math.MaxInt64, math.MaxInt64 - 1}
	for shift := range 63 {
		n := int64(1) << shift
		numbers = append(numbers, n-1, n, n+1)
	}
	for _, n := range numbers {
		text := string(Append(nil, n))
		if want := string(binary.AppendUvarint(nil, uint64(n))); text != want {
			t.Errorf("Append(%d) = %x, want %x", n, text, want)
		}
		r := NewReader(text + "!")
		if got := r.Number(); got != n {
			t.Errorf("Number of %x = %d, want %d", text, got, n)
		}
		if b := r.Byte(); b != '!' {
			t.Errorf("Number of %x left off at %q", text, b)
		}
	}
}

func TestTakeSoManyBytes(t *testing.T) {
	for _, count := range []int64{0, 1, 3} {
		r := NewReader("abc")
		if got, want := r.Take(count), "abc"[:count]; got != want || r.Left() != 3-int(count) {
			t.Errorf("Take(%d) = %q, and %d are left", count, got, r.Left())
		}
	}
	r := NewReader("abc")
	if r.Left() != 3 {
		t.Errorf("of three bytes %d are left", r.Left())
	}
	if got := r.Take(1) + "," + r.Take(2) + "," + r.Take(0); got != "a,bc," {
		t.Errorf("Take in turn: %q", got)
	}
	r.End()
}

func TestTakeOfTooManyBytes(t *testing.T) {
	for _, count := range []int64{4, 5, math.MaxInt32 + 1, math.MaxInt64} {
		func() {
			defer func() {
				if recover() == nil {
					t.Errorf("of three bytes %d were taken", count)
				}
			}()
			NewReader("abc").Take(count)
		}()
	}
}

func TestJoin(t *testing.T) {
	for want, numbers := range map[string][]int64{"\xff": nil, "\xff\x00": {0}, "\xff\x07\xac\x02\x7f": {7, 300, 127}} {
		if got := Join(255, numbers); got != want {
			t.Errorf("Join of %d = %x, want %x", numbers, got, want)
		}
	}
}

func TestAppendKeepsWhatIsThere(t *testing.T) {
	if got := string(Append([]byte{9}, 300)); got != "\x09\xac\x02" {
		t.Errorf("Append = %x", got)
	}
}

func TestBrokenNumbers(t *testing.T) {
	for _, text := range []string{
		"",                                     // nothing
		"\x80",                                 // no last byte
		"\xff\xff",                             // no last byte
		"\x80\x00",                             // 0 in two bytes
		"\x81\x00",                             // 1 in two bytes
		"\x80\x80\x80\x80\x80\x80\x80\x80\x00", // 0 in nine bytes
		"\x80\x80\x80\x80\x80\x80\x80\x80\x80\x01", // ten bytes
		"\xff\xff\xff\xff\xff\xff\xff\xff\xff\x7f", // ten bytes
		"\x00\x00", // two numbers
	} {
		if !broken(text) {
			t.Errorf("%x was read as a number", text)
		}
	}
	for _, text := range []string{"\x00", "\x7f", "\x80\x01", "\xff\xff\xff\xff\xff\xff\xff\xff\x7f", "\x80\x80\x80\x80\x80\x80\x80\x80\x01"} {
		if broken(text) {
			t.Errorf("%x was not read as a number", text)
		}
	}
}
