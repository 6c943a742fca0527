package store

import (
	"errors"

	"larder/api"
	"larder/wire"
)

// maxParents is how many lots a Merge takes.
const maxParents = 2

var errUnsound = errors.New("store: a state of no sound store")

// FromState makes a store of the bytes of its state. If they are not those of
// a sound store, it panics: the caller who brought them in recovers.
func FromState(text string) *Store {
	r := wire.NewReader(text)
	must(r.Byte() == api.State)
	s := New()
	s.today = between(r, 0, api.MaxDay)
	s.readLots(r)
	s.readOrders(r)
	s.readRecalls(r)
	r.End()
	s.mustAddUp()
	return s
}

// must gives up a state of which something does not hold.
func must(holds bool) {
	if !holds {
		panic(errUnsound)
	}
}

// between takes a number that is neither less nor more than the bounds.
func between(r *wire.Reader, least, most int64) int64 {
	n := r.Number()
	must(n >= least && n <= most)
	return n
}

// above takes the number of a lot or an order that stands behind another in a
// state; behind none, if that is 0.
func above(r *wire.Reader, ahead int64) int64 {
	return between(r, ahead+1, api.MaxId)
}

func (s *Store) readLots(r *wire.Reader) {
	comings := between(r, 0, api.MaxLots)
	must(r.Number() == comings)
	s.lots = make([]*lot, comings)
	var number int64
	for range comings {
		number = above(r, number)
		l := readLot(r, number, comings)
		must(s.lots[l.place-1] == nil)
		s.lots[l.place-1] = l
	}
	// Not ahead of this are all parents there: their numbers may be greater.
	for _, l := range s.lots {
		s.takeFromParents(l)
	}
}

// readLot leans, as do others here, on calls within a literal being done from
// left to right, which the language promises.
func readLot(r *wire.Reader, number, comings int64) *lot {
	l := &lot{
		number:   number,
		goods:    between(r, 1, api.MaxId),
		expiry:   between(r, 0, api.MaxDay),
		place:    between(r, 1, comings),
		free:     between(r, 0, api.MaxCount),
		held:     between(r, 0, api.MaxCount),
		shipped:  between(r, 0, api.MaxCount),
		scrapped: between(r, 0, api.MaxCount),
		parents:  readParents(r),
	}
	if len(l.parents) == 0 {
		l.got = r.Number()
	}
	for _, p := range l.parents {
		l.got += p.gave
	}
	must(l.got >= 1 && l.got <= api.MaxCount)
	return l
}

func readParents(r *wire.Reader) []parent {
	var parents []parent
	var number int64
	for range between(r, 0, maxParents) {
		number = above(r, number)
		parents = append(parents, parent{lot: number, gave: between(r, 0, api.MaxCount)})
	}
	return parents
}

// takeFromParents holds a lot against its parents, and puts what it got of
// them into what they have Given, of which a state does not tell.
func (s *Store) takeFromParents(l *lot) {
	if len(l.parents) == 0 {
		return
	}
	expiry := int64(api.MaxDay)
	for _, p := range l.parents {
		from := s.find(p.lot)
		must(from != nil && from.goods == l.goods && from.place < l.place)
		from.given += p.gave
		expiry = min(expiry, from.expiry)
	}
	must(l.expiry == expiry)
}

func (s *Store) readOrders(r *wire.Reader) {
	var number int64
	for range between(r, 0, api.MaxOrders) {
		number = above(r, number)
		s.orders[number] = between(r, 1, api.MaxId)
		s.readLines(r, number)
	}
}

func (s *Store) readLines(r *wire.Reader, order int64) {
	var number int64
	for range between(r, 1, api.MaxLots) {
		number = above(r, number)
		l := s.find(number)
		must(l != nil && l.goods == s.orders[order])
		s.holdings[holding{order: order, lot: number}] = between(r, 1, api.MaxCount)
	}
}

func (s *Store) readRecalls(r *wire.Reader) {
	var ahead recall
	for range between(r, 0, api.MaxRecalls) {
		next := recall{lot: between(r, 1, api.MaxId), mark: between(r, 1, api.MaxId)}
		must(compareRecalls(ahead, next) < 0 && s.find(next.lot) != nil)
		s.recalls[next] = struct{}{}
		ahead = next
	}
}

// mustAddUp holds the counts of the lots against one another, and against what
// orders hold.
func (s *Store) mustAddUp() {
	for _, l := range s.lots {
		must(l.got == l.free+l.held+l.shipped+l.scrapped+l.given)
		must(l.held == s.heldForOrders(l))
	}
}

func (s *Store) heldForOrders(l *lot) int64 {
	var held int64
	for order := range s.orders {
		held += s.holdings[holding{order: order, lot: l.number}]
	}
	return held
}
