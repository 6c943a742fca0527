package store

import (
	"cmp"
	"maps"
	"slices"

	"larder/api"
	"larder/wire"
)

// State tells the whole store as bytes, of which FromState makes it again.
func (s *Store) State() string {
	return wire.Join(api.State, s.numbers())
}

func (s *Store) numbers() []int64 {
	comings := int64(len(s.lots))
	numbers := []int64{s.today, comings, comings}
	for _, l := range s.byNumber() {
		numbers = append(numbers, l.numbers()...)
	}
	numbers = append(numbers, int64(len(s.orders)))
	for _, order := range slices.Sorted(maps.Keys(s.orders)) {
		numbers = append(numbers, order, s.orders[order])
		numbers = append(numbers, told(s.linesOf(order))...)
	}
	numbers = append(numbers, int64(len(s.recalls)))
	for _, r := range slices.SortedFunc(maps.Keys(s.recalls), compareRecalls) {
		numbers = append(numbers, r.lot, r.mark)
	}
	return numbers
}

// numbers leaves out what follows from the rest of a state: Given, and Got of
// a lot with parents.
func (l *lot) numbers() []int64 {
	numbers := []int64{l.number, l.goods, l.expiry, l.place, l.free, l.held, l.shipped, l.scrapped}
	numbers = append(numbers, int64(len(l.parents)))
	if len(l.parents) == 0 {
		return append(numbers, l.got)
	}
	parents := slices.Clone(l.parents)
	slices.SortFunc(parents, func(a, b parent) int { return cmp.Compare(a.lot, b.lot) })
	for _, p := range parents {
		numbers = append(numbers, p.lot, p.gave)
	}
	return numbers
}
