package heap

import (
	"math/rand"
	"slices"
	"testing"
)

type rising struct{}

func (rising) Before(a, b int) bool { return a < b }

type falling struct{}

func (falling) Before(a, b int) bool { return a > b }

type byLength struct{}

func (byLength) Before(a, b string) bool { return len(a) < len(b) }

// drained takes out all that is there.
func drained[T any, O Order[T]](h *Heap[T, O]) []T {
	var items []T
	for {
		item, ok := h.Pop()
		if !ok {
			return items
		}
		items = append(items, item)
	}
}

func TestEmptyHeapHasNothing(t *testing.T) {
	var h Heap[int, rising]
	if item, ok := h.Pop(); ok || item != 0 {
		t.Errorf("P6: an empty heap gave %d, %v", item, ok)
	}
	h.Push(4)
	if item, ok := h.Pop(); !ok || item != 4 {
		t.Errorf("P6: a heap of 4 gave %d, %v", item, ok)
	}
	if item, ok := h.Pop(); ok || item != 0 {
		t.Errorf("P6: an emptied heap gave %d, %v", item, ok)
	}
}

func TestItemsComeOutInTheirOrder(t *testing.T) {
	r := rand.New(rand.NewSource(1))
	for size := range 40 {
		for range 20 {
			var up Heap[int, rising]
			var down Heap[int, falling]
			var want []int
			for range size {
				n := r.Intn(size)
				want = append(want, n)
				up.Push(n)
				down.Push(n)
			}
			put := slices.Clone(want)
			slices.Sort(want)
			if got := drained(&up); !slices.Equal(got, want) {
				t.Fatalf("P6: of %d came, rising, %d", put, got)
			}
			slices.Reverse(want)
			if got := drained(&down); !slices.Equal(got, want) {
				t.Fatalf("P6: of %d came, falling, %d", put, got)
			}
		}
	}
}

func TestItemsMayComeBetween(t *testing.T) {
	r := rand.New(rand.NewSource(2))
	var h Heap[int, rising]
	var left []int
	for range 5000 {
		if r.Intn(2) == 0 {
			n := r.Intn(50)
			h.Push(n)
			left = append(left, n)
			slices.Sort(left)
			continue
		}
		item, ok := h.Pop()
		if ok != (len(left) > 0) {
			t.Fatalf("P6: with %d left, Pop gave %d, %v", left, item, ok)
		}
		if !ok {
			continue
		}
		if item != left[0] {
			t.Fatalf("P6: with %d left, Pop gave %d", left, item)
		}
		left = left[1:]
	}
}

func TestItemsOfOtherTypes(t *testing.T) {
	var h Heap[string, byLength]
	for _, s := range []string{"four", "", "seventh", "two", "a"} {
		h.Push(s)
	}
	if got, want := drained(&h), []string{"", "a", "two", "four", "seventh"}; !slices.Equal(got, want) {
		t.Errorf("P6: came %q", got)
	}
}
