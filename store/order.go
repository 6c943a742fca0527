package store

import (
	"larder/api"
	"larder/command"
	"larder/heap"
)

// holding names a line: of which order it is, and of which lot.
type holding struct {
	order, lot int64
}

// line is a lot, and how many of it.
type line struct {
	lot   *lot
	count int64
}

// byExpiry lets go first what expires first.
type byExpiry struct{}

func (byExpiry) Before(a, b *lot) bool {
	if a.expiry != b.expiry {
		return a.expiry < b.expiry
	}
	return a.number < b.number
}

// byComing lets go first what came first.
type byComing struct{}

func (byComing) Before(a, b *lot) bool { return a.place < b.place }

func (s *Store) order(c command.Order) ([]int64, api.Errno) {
	if s.hasOrder(c.Order) {
		return nil, api.ErrTwice
	}
	if len(s.orders) >= api.MaxOrders {
		return nil, api.ErrFull
	}
	lines := s.linesFor(c)
	got := countOf(lines)
	if got == 0 || got < c.Count && c.Way&api.Whole != 0 {
		return nil, api.ErrShort
	}
	s.orders[c.Order] = c.Goods
	s.hold(c.Order, lines)
	return told(lines), api.OK
}

func (s *Store) cancel(c command.Cancel) api.Errno {
	if !s.hasOrder(c.Order) {
		return api.ErrOrder
	}
	for _, each := range s.end(c.Order) {
		each.lot.free += each.count
	}
	return api.OK
}

func (s *Store) ship(c command.Ship) api.Errno {
	if !s.hasOrder(c.Order) {
		return api.ErrOrder
	}
	for _, each := range s.end(c.Order) {
		each.lot.shipped += each.count
	}
	return api.OK
}

func (s *Store) hasOrder(order int64) bool {
	_, ok := s.orders[order]
	return ok
}

// linesFor answers what an order would get, in the order in which lots give,
// and changes nothing: the order may yet be refused.
func (s *Store) linesFor(c command.Order) []line {
	lots := s.canServe(c.Goods, c.Gate)
	if c.Way&api.First != 0 {
		return allot[byComing](lots, c.Count)
	}
	return allot[byExpiry](lots, c.Count)
}

func allot[O heap.Order[*lot]](lots []*lot, wanted int64) []line {
	var queue heap.Heap[*lot, O]
	for _, l := range lots {
		queue.Push(l)
	}
	var lines []line
	for wanted > 0 {
		l, ok := queue.Pop()
		if !ok {
			break
		}
		count := min(l.free, wanted)
		lines = append(lines, line{lot: l, count: count})
		wanted -= count
	}
	return lines
}

func countOf(lines []line) int64 {
	var count int64
	for _, each := range lines {
		count += each.count
	}
	return count
}

// hold takes the lines out of what is Free, for an order.
func (s *Store) hold(order int64, lines []line) {
	for _, each := range lines {
		each.lot.free -= each.count
		each.lot.held += each.count
		s.holdings[holding{order: order, lot: each.lot.number}] = each.count
	}
}

// end takes an order away, and answers its lines, which are Held no longer:
// the caller says what becomes of them.
func (s *Store) end(order int64) []line {
	lines := s.linesOf(order)
	for _, each := range lines {
		delete(s.holdings, holding{order: order, lot: each.lot.number})
		each.lot.held -= each.count
	}
	delete(s.orders, order)
	return lines
}

// linesOf answers an order's lines, the lots' numbers rising. It goes by the
// lots, so that the order of the map is not to be seen.
func (s *Store) linesOf(order int64) []line {
	var lines []line
	for _, l := range s.byNumber() {
		if count, ok := s.holdings[holding{order: order, lot: l.number}]; ok {
			lines = append(lines, line{lot: l, count: count})
		}
	}
	return lines
}

// told is the lines as replies and states have them.
func told(lines []line) []int64 {
	numbers := []int64{int64(len(lines))}
	for _, each := range lines {
		numbers = append(numbers, each.lot.number, each.count)
	}
	return numbers
}
