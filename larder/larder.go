// Package larder: a store of lots that keep for a time: see DOC.md.
package larder

import (
	"larder/api"
	"larder/command"
	"larder/store"
	"larder/wire"
)

// Larder is a store.
type Larder struct {
	store *store.Store
}

// New begins with an empty store (P3).
func New() *Larder { return &Larder{store: store.New()} }

// Handle does a command, and answers (P3 to P8).
func (l *Larder) Handle(command string) string {
	return l.answer(command)
}

// Log tells all that has been logged (P9).
func (l *Larder) Log() string { return "" }

// Compact makes the log one state (P10).
func (l *Larder) Compact() {}

// Open begins with what a log tells; how many of its bytes it took (P11).
func Open(log string) (*Larder, int) {
	// Logs are not read yet; but methods of what Open gives must not panic.
	return New(), 0
}

func (l *Larder) answer(text string) string {
	c, ok := command.Read(text)
	if !ok {
		return reply(nil, api.ErrRequest)
	}
	if !c.InRange() {
		return reply(nil, api.ErrNumber)
	}
	return reply(l.store.Do(c))
}

func reply(numbers []int64, errno api.Errno) string {
	b := []byte{byte(errno)}
	for _, n := range numbers {
		b = wire.Append(b, n)
	}
	return string(b)
}
