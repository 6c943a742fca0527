// Package frame writes and reads the frames of a log.
package frame

import (
	"errors"

	"larder/wire"
)

// divisor is the check's polynomial but for its highest bit, x^32, which a
// step of the division takes away by itself.
const divisor uint32 = 1<<28 | 1<<27 | 1<<26 | 1<<25 | 1<<23 | 1<<22 | 1<<20 | 1<<19 | 1<<18 |
	1<<14 | 1<<13 | 1<<11 | 1<<10 | 1<<9 | 1<<8 | 1<<6 | 1

// checkBytes is how many bytes a check has.
const checkBytes = 4

var errCheck = errors.New("frame: a check of other bytes")

// Append writes a command's frame behind what is there.
func Append(to []byte, command string) []byte {
	counted := string(wire.Append(nil, int64(len(command)))) + command
	to = append(to, counted...)
	return append(to, check(counted)...)
}

// First answers the command of the frame that a log begins with. If no frame
// stands there, it panics: the caller who brought the log in recovers.
func First(log string) string {
	r := wire.NewReader(log)
	command := r.Take(r.Number())
	counted := log[:len(log)-r.Left()]
	if r.Take(checkBytes) != check(counted) {
		panic(errCheck)
	}
	return command
}

func check(text string) string {
	// Bits come in at the high end, which stands for the 32 noughts behind
	// them; and to begin with ones there turns over the first 32.
	left := ^uint32(0)
	for i := range len(text) {
		left ^= uint32(text[i]) << 24
		for range 8 {
			left = step(left)
		}
	}
	left = ^left
	return string([]byte{byte(left >> 24), byte(left >> 16), byte(left >> 8), byte(left)})
}

// step divides by one bit more.
func step(left uint32) uint32 {
	if left>>31 == 1 {
		return left<<1 ^ divisor
	}
	return left << 1
}
