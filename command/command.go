// Package command has the commands as values, one type a command, and reads
// them from bytes.
package command

import (
	"larder/api"
)

// Command is a command that was read. InRange says whether each of its numbers
// is one that may be, whatever the store holds.
type Command interface {
	InRange() bool
}

// Day makes a day today.
type Day struct{ Day int64 }

// Receive brings in a lot.
type Receive struct{ Lot, Goods, Count, Expiry int64 }

// Split makes a new lot of a part of one.
type Split struct{ Lot, New, Count int64 }

// Merge makes a new lot of all that two have Free.
type Merge struct{ A, B, New int64 }

// Order holds lots for an order.
type Order struct{ Order, Goods, Count, Gate, Way int64 }

// Cancel gives back what an order holds.
type Cancel struct{ Order int64 }

// Ship sends out what an order holds.
type Ship struct{ Order int64 }

// Recall calls back a lot and all that comes of it.
type Recall struct{ Lot, Mark int64 }

// Release takes a recall away.
type Release struct{ Lot, Mark int64 }

// Scrap throws away some of a lot.
type Scrap struct{ Lot, Count int64 }

// Look asks for a lot.
type Look struct{ Lot int64 }

// Supply asks what can serve.
type Supply struct{ Goods, Gate int64 }

func (c Day) InRange() bool     { return isDay(c.Day) }
func (c Receive) InRange() bool { return isId(c.Lot, c.Goods) && isCount(c.Count) && isDay(c.Expiry) }
func (c Split) InRange() bool   { return isId(c.Lot, c.New) && isCount(c.Count) }
func (c Merge) InRange() bool   { return isId(c.A, c.B, c.New) }
func (c Order) InRange() bool {
	return isId(c.Order, c.Goods) && isCount(c.Count) && isDay(c.Gate) && c.Way <= api.Whole+api.First
}
func (c Cancel) InRange() bool  { return isId(c.Order) }
func (c Ship) InRange() bool    { return isId(c.Order) }
func (c Recall) InRange() bool  { return isId(c.Lot, c.Mark) }
func (c Release) InRange() bool { return isId(c.Lot, c.Mark) }
func (c Scrap) InRange() bool   { return isId(c.Lot) && isCount(c.Count) }
func (c Look) InRange() bool    { return isId(c.Lot) }
func (c Supply) InRange() bool  { return isId(c.Goods) && isDay(c.Gate) }

// Logged says whether a command is one that a log tells: those that only ask
// are not.
func Logged(c Command) bool {
	switch c.(type) {
	case Look, Supply:
		return false
	}
	return true
}

func isId(numbers ...int64) bool {
	for _, n := range numbers {
		if n < 1 || n > api.MaxId {
			return false
		}
	}
	return true
}

func isCount(n int64) bool { return n >= 1 && n <= api.MaxCount }

func isDay(n int64) bool { return n <= api.MaxDay }
