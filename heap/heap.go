// Package heap has a heap of anything that has an order.
package heap

// Order says which of two items goes first.
type Order[T any] interface {
	Before(a, b T) bool
}

// Heap hands out what was put in, what goes first ahead. Its order is a type,
// not a value, so that an empty Heap is ready for use, and heaps of other
// orders cannot be taken for one another.
type Heap[T any, O Order[T]] struct {
	order O
	items []T // items[i] does not go ahead of items[(i-1)/2]
}

// Push puts in an item.
func (h *Heap[T, O]) Push(item T) {
	h.items = append(h.items, item)
	h.rise(len(h.items) - 1)
}

// Pop takes out the item that goes first; ok is false if there is none.
func (h *Heap[T, O]) Pop() (item T, ok bool) {
	if len(h.items) == 0 {
		return item, false
	}
	item = h.items[0]
	last := len(h.items) - 1
	h.items[0] = h.items[last]
	h.items = h.items[:last]
	h.sink(0)
	return item, true
}

func (h *Heap[T, O]) rise(i int) {
	for i > 0 {
		above := (i - 1) / 2
		if !h.before(i, above) {
			return
		}
		h.swap(i, above)
		i = above
	}
}

func (h *Heap[T, O]) sink(i int) {
	for {
		first := i
		for below := 2*i + 1; below <= 2*i+2 && below < len(h.items); below++ {
			if h.before(below, first) {
				first = below
			}
		}
		if first == i {
			return
		}
		h.swap(i, first)
		i = first
	}
}

func (h *Heap[T, O]) before(i, j int) bool { return h.order.Before(h.items[i], h.items[j]) }

func (h *Heap[T, O]) swap(i, j int) { h.items[i], h.items[j] = h.items[j], h.items[i] }
