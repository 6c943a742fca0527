package store

import (
	"cmp"

	"larder/api"
	"larder/command"
)

// recall is of a lot, with a mark.
type recall struct {
	lot, mark int64
}

// compareRecalls goes by lot, and then by mark.
func compareRecalls(a, b recall) int {
	if a.lot != b.lot {
		return cmp.Compare(a.lot, b.lot)
	}
	return cmp.Compare(a.mark, b.mark)
}

func (s *Store) recall(c command.Recall) ([]int64, api.Errno) {
	if s.find(c.Lot) == nil {
		return nil, api.ErrLot
	}
	key := recall{lot: c.Lot, mark: c.Mark}
	if s.hasRecall(key) {
		return nil, api.ErrTwice
	}
	if len(s.recalls) >= api.MaxRecalls {
		return nil, api.ErrFull
	}
	s.recalls[key] = struct{}{}
	return told(s.heldOf(c.Lot)), api.OK
}

func (s *Store) release(c command.Release) api.Errno {
	key := recall{lot: c.Lot, mark: c.Mark}
	if !s.hasRecall(key) {
		return api.ErrRecall
	}
	delete(s.recalls, key)
	return api.OK
}

func (s *Store) hasRecall(key recall) bool {
	_, ok := s.recalls[key]
	return ok
}

// heldOf answers what is Held of all that comes of a lot, numbers rising.
func (s *Store) heldOf(number int64) []line {
	f := family{number: struct{}{}}
	s.grow(f)
	var lines []line
	for _, l := range s.byNumber() {
		if l.held > 0 && f.has(l) {
			lines = append(lines, line{lot: l, count: l.held})
		}
	}
	return lines
}

// family is a set of lots' numbers.
type family map[int64]struct{}

func (f family) has(l *lot) bool {
	_, ok := f[l.number]
	return ok
}

// recalled answers all lots that are recalled.
func (s *Store) recalled() family {
	f := family{}
	for r := range s.recalls {
		f[r.lot] = struct{}{}
	}
	s.grow(f)
	return f
}

// grow puts into a family all that comes of its lots. One walk is enough,
// since parents came ahead of what was made of them; going up from each lot
// would meet a lot once for every way that leads to it.
func (s *Store) grow(f family) {
	for _, l := range s.lots {
		for _, p := range l.parents {
			if _, ok := f[p.lot]; ok {
				f[l.number] = struct{}{}
			}
		}
	}
}
