package store

import (
	"cmp"
	"slices"

	"larder/api"
)

// lot is some goods that came together.
type lot struct {
	number, goods, expiry, place              int64
	parents                                   []parent
	got, free, held, shipped, scrapped, given int64
}

// parent is a lot of which another was made, and how many it gave to that.
type parent struct {
	lot, gave int64
}

// give takes a count out of what is Free, for a lot that is made of this one.
func (l *lot) give(count int64) parent {
	l.free -= count
	l.given += count
	return parent{lot: l.number, gave: count}
}

// find answers nil if there is no such lot.
func (s *Store) find(number int64) *lot {
	for _, l := range s.lots {
		if l.number == number {
			return l
		}
	}
	return nil
}

// byNumber answers the lots, their numbers rising.
func (s *Store) byNumber() []*lot {
	lots := slices.Clone(s.lots)
	slices.SortFunc(lots, func(a, b *lot) int { return cmp.Compare(a.number, b.number) })
	return lots
}

// room says whether a new lot of this number may come.
func (s *Store) room(number int64) api.Errno {
	if s.find(number) != nil {
		return api.ErrTwice
	}
	if len(s.lots) >= api.MaxLots {
		return api.ErrFull
	}
	return api.OK
}

// add lets a new lot come, of which all is Free.
func (s *Store) add(l lot) {
	l.place = int64(len(s.lots)) + 1
	l.free = l.got
	s.lots = append(s.lots, &l)
}

// canServe answers the lots that can serve, in the order of their coming.
func (s *Store) canServe(goods, gate int64) []*lot {
	recalled := s.recalled()
	var serving []*lot
	for _, l := range s.lots {
		if l.goods == goods && l.free > 0 && l.expiry >= s.today+gate+1 && !recalled.has(l) {
			serving = append(serving, l)
		}
	}
	return serving
}
