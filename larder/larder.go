// Package larder: a store of lots that keep for a time: see DOC.md.
package larder

import (
	"errors"

	"larder/api"
	"larder/command"
	"larder/frame"
	"larder/store"
	"larder/wire"
)

var errNoGo = errors.New("larder: a frame that does not go")

// Larder is a store, and the log of what was done to it.
type Larder struct {
	store *store.Store
	log   []byte
}

// New begins with an empty store (P3).
func New() *Larder { return &Larder{store: store.New()} }

// Handle does a command, and answers (P3 to P8).
func (l *Larder) Handle(command string) string {
	numbers, errno := l.do(command)
	return wire.Join(byte(errno), numbers)
}

// Log tells all that has been logged (P9).
func (l *Larder) Log() string { return string(l.log) }

// Compact makes the log one state (P10).
func (l *Larder) Compact() { l.log = frame.Append(nil, l.store.State()) }

// Open begins with what a log tells; how many of its bytes it took (P11).
func Open(log string) (*Larder, int) {
	l := New()
	return l, l.replay(log)
}

func (l *Larder) do(text string) ([]int64, api.Errno) {
	c, ok := command.Read(text)
	if !ok {
		return nil, api.ErrRequest
	}
	if !c.InRange() {
		return nil, api.ErrNumber
	}
	numbers, errno := l.store.Do(c)
	if errno == api.OK && command.Logged(c) {
		l.log = frame.Append(l.log, text)
	}
	return numbers, errno
}

// replay does a log's frames, as far as they stand and go, and answers how
// many bytes they have.
func (l *Larder) replay(log string) (taken int) {
	defer func() {
		// Whatever goes wrong, the log breaks off there; what was done ahead
		// of it stands.
		if recover() != nil {
			taken = len(l.log)
		}
	}()
	for len(l.log) < len(log) {
		l.redo(frame.First(log[len(l.log):]))
	}
	return len(l.log)
}

// redo does what a frame tells, and panics if it does not go. What goes is
// just what is logged when it is done, so that the log comes to be the bytes
// that were taken.
func (l *Larder) redo(text string) {
	ahead := len(l.log)
	if ahead == 0 && isState(text) {
		l.store = store.FromState(text)
		l.log = frame.Append(nil, text)
		return
	}
	l.do(text)
	if len(l.log) == ahead {
		panic(errNoGo)
	}
}

func isState(text string) bool { return text != "" && text[0] == api.State }
