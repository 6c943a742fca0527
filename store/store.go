// Package store keeps lots, orders and recalls, and does commands to them.
package store

import (
	"larder/api"
	"larder/command"
)

// Store is today, the lots, the orders and the recalls.
type Store struct {
	today int64
	// In the order of their coming, so that parents stand ahead of what was
	// made of them; lots never go away, so their number is that of comings.
	lots     []*lot
	orders   map[int64]int64   // an order's goods, by its number
	holdings map[holding]int64 // how many an order holds of a lot
	recalls  map[recall]struct{}
}

// New begins with an empty store.
func New() *Store {
	return &Store{orders: map[int64]int64{}, holdings: map[holding]int64{}, recalls: map[recall]struct{}{}}
}

// Do does a command whose numbers are in range, and answers the numbers of its
// reply. A refused command has changed nothing.
func (s *Store) Do(c command.Command) ([]int64, api.Errno) {
	switch c := c.(type) {
	case command.Day:
		return nil, s.day(c)
	case command.Receive:
		return nil, s.receive(c)
	case command.Split:
		return nil, s.split(c)
	case command.Merge:
		return nil, s.merge(c)
	case command.Order:
		return s.order(c)
	case command.Cancel:
		return nil, s.cancel(c)
	case command.Ship:
		return nil, s.ship(c)
	case command.Recall:
		return s.recall(c)
	case command.Release:
		return nil, s.release(c)
	case command.Scrap:
		return nil, s.scrap(c)
	case command.Look:
		return s.look(c)
	case command.Supply:
		return s.supply(c), api.OK
	}
	return nil, api.ErrRequest
}

func (s *Store) day(c command.Day) api.Errno {
	if c.Day < s.today {
		return api.ErrClock
	}
	s.today = c.Day
	return api.OK
}

func (s *Store) receive(c command.Receive) api.Errno {
	if errno := s.room(c.Lot); errno != api.OK {
		return errno
	}
	s.add(lot{number: c.Lot, goods: c.Goods, expiry: c.Expiry, got: c.Count})
	return api.OK
}

func (s *Store) split(c command.Split) api.Errno {
	from := s.find(c.Lot)
	if from == nil {
		return api.ErrLot
	}
	if errno := s.room(c.New); errno != api.OK {
		return errno
	}
	if from.free < c.Count {
		return api.ErrShort
	}
	parents := []parent{from.give(c.Count)}
	s.add(lot{number: c.New, goods: from.goods, expiry: from.expiry, parents: parents, got: c.Count})
	return api.OK
}

func (s *Store) merge(c command.Merge) api.Errno {
	a, b := s.find(c.A), s.find(c.B)
	if a == nil || b == nil {
		return api.ErrLot
	}
	if a == b || a.goods != b.goods {
		return api.ErrGoods
	}
	if errno := s.room(c.New); errno != api.OK {
		return errno
	}
	sum := a.free + b.free
	if sum == 0 {
		return api.ErrShort
	}
	if sum > api.MaxCount {
		return api.ErrNumber
	}
	parents := []parent{a.give(a.free), b.give(b.free)}
	s.add(lot{number: c.New, goods: a.goods, expiry: min(a.expiry, b.expiry), parents: parents, got: sum})
	return api.OK
}

func (s *Store) scrap(c command.Scrap) api.Errno {
	l := s.find(c.Lot)
	if l == nil {
		return api.ErrLot
	}
	if l.free < c.Count {
		return api.ErrShort
	}
	l.free -= c.Count
	l.scrapped += c.Count
	return api.OK
}

func (s *Store) look(c command.Look) ([]int64, api.Errno) {
	l := s.find(c.Lot)
	if l == nil {
		return nil, api.ErrLot
	}
	var recalled int64
	if s.recalled().has(l) {
		recalled = 1
	}
	return []int64{l.goods, l.expiry, l.place, l.got, l.free, l.held, l.shipped, l.scrapped, l.given, recalled}, api.OK
}

func (s *Store) supply(c command.Supply) []int64 {
	var lots, free int64
	for _, l := range s.canServe(c.Goods, c.Gate) {
		lots++
		free += l.free
	}
	return []int64{lots, free}
}
