package command

import (
	"errors"

	"larder/api"
	"larder/wire"
)

var errCode = errors.New("command: a code of no command")

// Read makes a command of bytes; ok is false if they are none.
func Read(text string) (c Command, ok bool) {
	defer func() {
		// Whatever goes wrong while bytes are read, they are no command.
		if recover() != nil {
			c, ok = nil, false
		}
	}()
	r := wire.NewReader(text)
	c = take(r)
	r.End()
	return c, true
}

// take leans on calls within a literal being done from left to right, which
// the language promises.
func take(r *wire.Reader) Command {
	switch r.Byte() {
	case api.Day:
		return Day{Day: r.Number()}
	case api.Receive:
		return Receive{Lot: r.Number(), Goods: r.Number(), Count: r.Number(), Expiry: r.Number()}
	case api.Split:
		return Split{Lot: r.Number(), New: r.Number(), Count: r.Number()}
	case api.Merge:
		return Merge{A: r.Number(), B: r.Number(), New: r.Number()}
	case api.Order:
		return Order{Order: r.Number(), Goods: r.Number(), Count: r.Number(), Gate: r.Number(), Way: r.Number()}
	case api.Cancel:
		return Cancel{Order: r.Number()}
	case api.Ship:
		return Ship{Order: r.Number()}
	case api.Recall:
		return Recall{Lot: r.Number(), Mark: r.Number()}
	case api.Release:
		return Release{Lot: r.Number(), Mark: r.Number()}
	case api.Scrap:
		return Scrap{Lot: r.Number(), Count: r.Number()}
	case api.Look:
		return Look{Lot: r.Number()}
	case api.Supply:
		return Supply{Goods: r.Number(), Gate: r.Number()}
	}
	panic(errCode)
}
