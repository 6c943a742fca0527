package larder_test

import (
	"encoding/binary"
	"math/rand"
	"strings"
	"testing"

	"larder/api"
	"larder/larder"
)

// opened opens a log and holds how many bytes were taken, and the log then,
// against what is wanted.
func opened(t *testing.T, promise, log string, want int) *larder.Larder {
	t.Helper()
	l, took := larder.Open(log)
	if l == nil || took != want {
		t.Fatalf("%s: Open(%x) took %d bytes, want %d", promise, log, took, want)
	}
	if got := l.Log(); got != log[:want] {
		t.Fatalf("%s: behind Open the log is %x, want %x", promise, got, log[:want])
	}
	return l
}

// stateOf is the state that a larder has, which is left as it is.
func stateOf(t *testing.T, l *larder.Larder) string {
	t.Helper()
	again, _ := larder.Open(l.Log())
	again.Compact()
	return frameOf(t, again.Log())
}

func TestExample6(t *testing.T) {
	log := example(t).Log()
	l := opened(t, "P11", log[:len(log)-1], 28)
	told(t, "P11", l,
		"0b 01", "00 07 14 01 05 05 00 00 00 00 00",
		"0b 02", "00 07 0f 02 ac 02 ac 02 00 00 00 00 00",
		"0b 03", "04", "01 09", "03",
		"03 02 03 64", "00")
	logged(t, "P11", l, log)
	if seen(l) != seen(example(t)) {
		t.Error("P11: the store is another when the Split is done again")
	}
}

func TestP11CutAtEachByte(t *testing.T) {
	for _, ahead := range []string{"", framed(exampleState(t))} {
		l, _ := larder.Open(ahead)
		ends, stores := []int{0}, []string{seen(larder.New())}
		if ahead != "" {
			ends, stores = append(ends, len(ahead)), append(stores, seen(l))
		}
		for _, c := range []string{
			text(api.Day, 12), text(api.Receive, 5, 7, 300, 20), text(api.Split, 5, 6, 200), text(api.Merge, 5, 6, 9),
			text(api.Order, 300, 7, 150, 0, 0), text(api.Order, 301, 7, 20, 0, 0), text(api.Recall, 5, 1),
			text(api.Cancel, 300), text(api.Ship, 301), text(api.Release, 5, 1), text(api.Scrap, 9, 130),
		} {
			if reply := l.Handle(c); reply[0] != byte(api.OK) {
				t.Fatalf("P11: Handle(%x) = %x", c, reply)
			}
			ends, stores = append(ends, len(l.Log())), append(stores, seen(l))
		}
		log, whole := l.Log(), 0
		for cut := range len(log) + 1 {
			if whole+1 < len(ends) && ends[whole+1] == cut {
				whole++
			}
			if seen(opened(t, "P11", log[:cut], ends[whole])) != stores[whole] {
				t.Errorf("P11: a log cut to %d bytes makes another store", cut)
			}
		}
	}
}

// Of a log with a bit turned over the frames ahead are taken, and no more.
func TestP11BitsTurnedOver(t *testing.T) {
	log := exampleFrames()
	ends := []int{0, 7, 17, 28, 37}
	whole := 0
	for i := range log {
		if ends[whole+1] == i {
			whole++
		}
		for bit := range 8 {
			b := []byte(log)
			b[i] ^= 1 << bit
			opened(t, "P11", string(b), ends[whole])
		}
	}
}

func TestP11FramesThatDoNotGo(t *testing.T) {
	all := exampleFrames()
	state := framed(exampleState(t))
	for name, bad := range map[string]string{
		"junk": "x", "noughts": strings.Repeat("\x00", 9), "ones": strings.Repeat("\xff", 50),
		"nothing in it": framed(""), "no code": framed("\x00"), "an unknown code": framed("\x0e\x01"), "the highest code": framed("\xff"),
		"a command without a frame": "\x01\x0a", "a frame in a frame": framed(framed("\x01\x0a")),
		"too few bytes": framed("\x01"), "too many bytes": framed("\x01\x14\x00"), "a long number": framed("\x01\x94\x00"),
		"a number that is none": framed("\x01\x94"), "two commands": framed("\x01\x14\x01\x14"),
		"Look": framed(text(api.Look, 1)), "Look of none": framed(text(api.Look, 99)), "Supply": framed(text(api.Supply, 7, 0)),
		"ErrNumber": framed(text(api.Day, beyond)), "ErrClock": framed(text(api.Day, 9)),
		"ErrLot": framed(text(api.Scrap, 99, 1)), "ErrTwice": framed(text(api.Receive, 1, 7, 5, 20)),
		"ErrShort": framed(text(api.Scrap, 1, 6)), "ErrShort of an order": framed(text(api.Order, 1, 7, 306, 0, api.Whole)),
		"ErrGoods": framed(text(api.Merge, 1, 1, 5)), "ErrOrder": framed(text(api.Ship, 1)), "ErrRecall": framed(text(api.Release, 1, 1)),
		"a state that is not first": state, "an empty state that is not first": framed("\x0d\x00\x00\x00\x00\x00"),
		"a bare 13":     framed("\x0d"),
		"a long count":  "\x82\x00\x01\x14" + checkOf("\x82\x00\x01\x14"),
		"another check": "\x02\x01\x14" + checkOf("\x01\x14"),
	} {
		for _, behind := range []string{"", framed("\x01\x14"), all} {
			for _, ahead := range []string{all, state, all + framed("\x01\x0a"), state + framed("\x01\x0a")} {
				l := opened(t, "P11, "+name, ahead+bad+behind, len(ahead))
				if seen(l) != seen(example(t)) {
					t.Errorf("P11: %s changed the store", name)
				}
				answered(t, "P11, "+name, l, api.OK, api.Day, 10)
				logged(t, "P11, "+name, l, ahead+framed("\x01\x0a"))
			}
		}
	}
}

func TestP11FullStoresRefuse(t *testing.T) {
	log := ""
	for i := range uint64(api.MaxLots) {
		log += framed(text(api.Receive, i+1, 7, 5, 20))
	}
	opened(t, "P11", log+framed(text(api.Receive, 99, 7, 5, 20)), len(log))
	for i := range uint64(api.MaxOrders) {
		log += framed(text(api.Order, i+1, 7, 1, 0, 0)) + framed(text(api.Recall, 30, i+1))
	}
	opened(t, "P11", log+framed(text(api.Order, 99, 7, 1, 0, 0)), len(log))
	l := opened(t, "P11", log+framed(text(api.Recall, 30, 99)), len(log))
	answered(t, "P11", l, api.ErrFull, api.Recall, 30, 99)
	answered(t, "P11", l, api.ErrFull, api.Receive, 99, 7, 5, 20)
}

// A state goes first of all; others, and commands, go on from it.
func TestP11StateFirst(t *testing.T) {
	state := framed(exampleState(t))
	order := framed(text(api.Order, 1, 7, 250, 0, 0))
	opened(t, "P11", state, len(state))
	opened(t, "P11", state+state, len(state))
	opened(t, "P11", framed("\x01\x00")+state, 7)
	opened(t, "P11", "x"+state, 0)
	l := opened(t, "P11", state+order+"x", len(state)+len(order))
	told(t, "P11", l,
		"0b 02", "00 07 0f 02 ac 02 00 c8 01 00 00 64 00",
		"05 01 07 01 00 00", "05",
		"08 02 09", "00 02 02 c8 01 03 32", "0b 03", "00 07 0f 03 64 32 32 00 00 00 01",
		"02 09 07 01 14", "00", "0b 09", "00 07 14 04 01 01 00 00 00 00 00",
		"06 01", "00", "0b 03", "00 07 0f 03 64 64 00 00 00 00 01", "01 09", "03")
	logged(t, "P11", l, state+order+framed("\x08\x02\x09")+framed("\x02\x09\x07\x01\x14")+framed("\x06\x01"))
}

// A state that holds orders and recalls: they end as those of the larder that
// told it.
func TestP11OrdersAndRecallsOfAState(t *testing.T) {
	l := example(t)
	told(t, "P11", l, "05 01 07 fa 01 00 00", "00 02 02 c8 01 03 32", "05 04 07 02 00 00", "00 01 03 02", "08 02 09", "00 02 02 c8 01 03 34", "08 02 08", "00 02 02 c8 01 03 34")
	l.Compact()
	again := opened(t, "P11", l.Log(), len(l.Log()))
	told(t, "P11", again,
		"05 01 07 01 00 00", "05", "08 02 08", "05", "0c 07 00", "00 01 05", "09 02 09", "00", "09 02 09", "0a", "0c 07 00", "00 01 05",
		"09 02 08", "00", "0c 07 00", "00 02 35", "07 01", "00", "06 01", "09", "06 04", "00",
		"0b 02", "00 07 0f 02 ac 02 00 00 c8 01 00 64 00", "0b 03", "00 07 0f 03 64 32 00 32 00 00 00")
}

// anyFrames makes a log whose frames stand, of commands and near commands.
func anyFrames(r *rand.Rand) string {
	log := ""
	for range r.Intn(6) {
		c := anyCommand(r, []uint64{1, 2, 3})
		switch r.Intn(4) {
		case 0:
			c = junk(r)
		case 1:
			c = text(api.State, uint64(r.Intn(3)), uint64(r.Intn(3)), uint64(r.Intn(3))) + junk(r)
		}
		log += framed(c)
	}
	return log
}

func TestP1OpenEnds(t *testing.T) {
	var logs []string
	for a := range 256 {
		logs = append(logs, string([]byte{byte(a)}), framed(string([]byte{byte(a)})))
		for b := range 256 {
			logs = append(logs, string([]byte{byte(a), byte(b)}), framed(string([]byte{byte(a), byte(b)})))
		}
	}
	r := rand.New(rand.NewSource(3))
	for range 5000 {
		logs = append(logs, junk(r)+junk(r), anyFrames(r)+junk(r), framed(exampleState(t)[:1+r.Intn(38)]+junk(r)))
	}
	huge := string(binary.AppendUvarint(nil, 1<<63-1))
	logs = append(logs, "", huge, huge+"\x01\x0a", strings.Repeat("\x00", 100000), strings.Repeat("\xff", 100000), strings.Repeat("\x80", 100000),
		framed(strings.Repeat("\x0d", 100000)), framed("\x0d"+strings.Repeat("\x00", 100000)),
		framed(text(api.State, 1, 1<<62, 1<<62)), framed(text(api.State, 1, 1<<63-1, 1<<63-1)+strings.Repeat("\x01", 1000)))
	for _, log := range logs {
		l, took := larder.Open(log)
		if l == nil || took < 0 || took > len(log) || l.Log() != log[:took] {
			t.Fatalf("P1: Open(%x) took %d", log, took)
		}
		l.Compact()
		again, _ := larder.Open(l.Log())
		if again.Log() != l.Log() {
			t.Fatalf("P12: behind Open(%x) the state %x is not taken", log, l.Log())
		}
		l.Handle(log)
	}
}

// A larder, and those that were opened with its log, go their own ways.
func TestP2OpenedLardersStandAlone(t *testing.T) {
	for _, compact := range []bool{false, true} {
		l := example(t)
		if compact {
			l.Compact()
		}
		log := l.Log()
		one, other := opened(t, "P2", log, len(log)), opened(t, "P2", log, len(log))
		answered(t, "P2", one, api.OK, api.Scrap, 1, 2)
		answered(t, "P2", other, api.OK, api.Scrap, 1, 5)
		told(t, "P2", l, "08 01 01", "00 00")
		one.Compact()
		logged(t, "P2", other, log+framed(text(api.Scrap, 1, 5)))
		logged(t, "P2", l, log+framed(text(api.Recall, 1, 1)))
		told(t, "P2", one, "0b 01", "00 07 14 01 05 03 00 00 02 00 00")
		told(t, "P2", other, "0b 01", "00 07 14 01 05 00 00 00 05 00 00")
		told(t, "P2", l, "0b 01", "00 07 14 01 05 05 00 00 00 00 01")
	}
}

// traced is a walk that has written down, for each end of a frame, what the
// store was then.
type traced struct {
	larder       *larder.Larder
	ends         []int
	seen, states []string
}

func (w *traced) note(t *testing.T) {
	w.ends = append(w.ends, len(w.larder.Log()))
	w.seen = append(w.seen, seen(w.larder))
	w.states = append(w.states, stateOf(t, w.larder))
}

func (w *traced) compact(t *testing.T) {
	w.larder.Compact()
	// The commands ahead are no longer in the log: it can only be cut back
	// to nothing, or to the state.
	empty := traced{larder: larder.New()}
	empty.note(t)
	w.ends, w.seen, w.states = empty.ends, empty.seen, empty.states
	w.note(t)
}

// walked does drawn commands, and compacts now and then.
func walked(t *testing.T, r *rand.Rand, steps int) *traced {
	t.Helper()
	w := &traced{larder: larder.New()}
	w.note(t)
	for range steps {
		c := anyCommand(r, []uint64{1, 2, 3, 4, 5, 6, 7, 8, 9})
		if w.larder.Handle(c)[0] == byte(api.OK) && c[0] < api.Look {
			w.note(t)
		}
		if r.Intn(60) == 0 {
			w.compact(t)
		}
	}
	return w
}

// Cut at any byte, a log makes the larder that was there when its whole frames
// had been logged; and from there all goes on as if there had been no crash.
func TestP12Crashes(t *testing.T) {
	for seed := range int64(25) {
		r := rand.New(rand.NewSource(seed))
		w := walked(t, r, 100)
		log, whole := w.larder.Log(), 0
		for cut := range len(log) + 1 {
			if whole+1 < len(w.ends) && w.ends[whole+1] == cut {
				whole++
			}
			l := opened(t, "P12", log[:cut], w.ends[whole])
			if stateOf(t, l) != w.states[whole] || cut%16 == 0 && seen(l) != w.seen[whole] {
				t.Fatalf("P12: the log %x, cut to %d bytes, makes another store", log, cut)
			}
		}
		l := opened(t, "P12", log, len(log))
		for range 60 {
			c := anyCommand(r, []uint64{1, 2, 3, 4, 5, 6, 7, 8, 9})
			if got, want := l.Handle(c), w.larder.Handle(c); got != want {
				t.Fatalf("P12: behind Open Handle(%x) = %x, want %x", c, got, want)
			}
		}
		logged(t, "P12", l, w.larder.Log())
	}
}

// What a lot gave is what its children got of it, by the state alone.
func TestP12GivenIsWhatChildrenGot(t *testing.T) {
	for seed := range int64(25) {
		w := walked(t, rand.New(rand.NewSource(seed)), 150)
		gave := map[uint64]uint64{}
		s, ok := readState(stateOf(t, w.larder))
		if !ok {
			t.Fatalf("P10: the state cannot be read: %x", stateOf(t, w.larder))
		}
		for _, l := range s.lots {
			for _, p := range l.parents {
				gave[p[0]] += p[1]
			}
		}
		found := looks(t, w.larder)
		balanced(t, found)
		if len(found) != len(s.lots) {
			t.Fatalf("P10: of %d lots %d are told", len(found), len(s.lots))
		}
		for lot, n := range found {
			if n[8] != gave[lot] {
				t.Errorf("P12: lot %d gave %d, its children got %d", lot, n[8], gave[lot])
			}
		}
	}
}
