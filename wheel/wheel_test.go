package wheel

import (
	"math"
	"math/rand/v2"
	"slices"
	"testing"

	"shuttle/api"
	"shuttle/seq"
)

// noIns are numbers of ticks in which nothing can be due.
func noIns() []int {
	return []int{0, -1, -2, -1000, 1001, 1002, 65536, 1 << 32, 1<<32 + 5, -1 << 32, math.MaxInt, math.MinInt}
}

// set has a wheel set a number, which it must not refuse.
func set(t *testing.T, w *Wheel, a seq.Num, in int) {
	t.Helper()
	if e := w.Set(a, in); e != api.OK {
		t.Fatalf("Set(%d, %d): %d", a, in, e)
	}
}

// ticks fails unless just these are due at the next tick, and aren't set any more.
func ticks(t *testing.T, w *Wheel, want ...seq.Num) {
	t.Helper()
	ahead, all := w.Now(), w.Len()
	if l := w.Tick(); !slices.Equal(l, want) {
		t.Fatalf("at the tick %d: %v, want %v", ahead+1, l, want)
	}
	if w.Now() != ahead+1 || w.Len() != all-len(want) {
		t.Fatalf("the tick is %d behind %d, and %d are set of %d", w.Now(), ahead, w.Len(), all)
	}
}

// quiet fails if something is due at one of the next n ticks.
func quiet(t *testing.T, w *Wheel, n int) {
	t.Helper()
	for range n {
		ticks(t, w)
	}
}

// P19.1

func TestNew(t *testing.T) {
	w := New()
	if w == nil || w.Now() != 0 || w.Len() != 0 {
		t.Fatalf("New() = %v", w)
	}
	quiet(t, w, 3000)
	if w.Now() != 3000 {
		t.Errorf("the tick is %d", w.Now())
	}
	if New() == w {
		t.Error("it isn't new")
	}
}

func TestExample(t *testing.T) {
	w := New()
	set(t, w, 7, 2)
	ticks(t, w)
	ticks(t, w, 7)
	quiet(t, w, 10)
}

func TestSetAtTheEdges(t *testing.T) {
	for _, a := range []seq.Num{0, 1, 32767, 32768, 65534, 65535} {
		for _, in := range []int{1, 2, 3, 16, 999, 1000} {
			w := New()
			quiet(t, w, 5)
			set(t, w, a, in)
			if w.Len() != 1 || w.Now() != 5 {
				t.Fatalf("%d are set at %d", w.Len(), w.Now())
			}
			quiet(t, w, in-1)
			ticks(t, w, a)
			quiet(t, w, 1010)
		}
	}
}

func TestSetRefuses(t *testing.T) {
	for _, in := range noIns() {
		w := New()
		quiet(t, w, 2)
		if e := w.Set(4, in); e != api.ErrArg || w.Len() != 0 || w.Now() != 2 {
			t.Fatalf("Set(4, %d): %d, and %d are set", in, e, w.Len())
		}
		set(t, w, 4, 3)
		set(t, w, 5, 3)
		// What was set stays so where it is refused.
		if e := w.Set(4, in); e != api.ErrArg || w.Len() != 2 {
			t.Fatalf("Set(4, %d): %d, and %d are set", in, e, w.Len())
		}
		quiet(t, w, 2)
		ticks(t, w, 4, 5)
		quiet(t, w, 1005)
	}
}

func TestSetAgainCountsAlone(t *testing.T) {
	for _, c := range []struct{ first, behind, second int }{
		{2, 0, 5}, {5, 0, 2}, {3, 0, 3}, {5, 4, 1}, {5, 4, 5}, {5, 2, 3}, {1000, 999, 1000}, {1, 0, 1000}, {1000, 0, 1},
	} {
		w := New()
		set(t, w, 9, c.first)
		quiet(t, w, c.behind)
		set(t, w, 9, c.second)
		if w.Len() != 1 {
			t.Fatalf("%+v: %d are set", c, w.Len())
		}
		quiet(t, w, c.second-1)
		ticks(t, w, 9)
		quiet(t, w, 1010)
	}
}

func TestDrop(t *testing.T) {
	w := New()
	if e := w.Drop(0); e != api.ErrMiss {
		t.Errorf("of none: %d", e)
	}
	for a := range seq.Num(4) {
		set(t, w, a, 2)
	}
	for _, a := range []seq.Num{4, 65535, 32768} {
		if e := w.Drop(a); e != api.ErrMiss || w.Len() != 4 {
			t.Errorf("Drop(%d): %d, and %d are set", a, e, w.Len())
		}
	}
	if e := w.Drop(2); e != api.OK || w.Len() != 3 {
		t.Errorf("Drop(2): %d, and %d are set", e, w.Len())
	}
	if e := w.Drop(2); e != api.ErrMiss || w.Len() != 3 {
		t.Errorf("Drop(2) again: %d, and %d are set", e, w.Len())
	}
	ticks(t, w)
	ticks(t, w, 0, 1, 3)
	// What was due isn't set any more.
	for a := range seq.Num(4) {
		if e := w.Drop(a); e != api.ErrMiss {
			t.Errorf("Drop(%d) behind its tick: %d", a, e)
		}
	}
	// What was dropped may be set again.
	set(t, w, 2, 1)
	w.Drop(2)
	set(t, w, 2, 3)
	quiet(t, w, 2)
	ticks(t, w, 2)
	if w.Now() != 5 {
		t.Errorf("the tick is %d", w.Now())
	}
}

// Those that are due at one tick rise by their plain numbers, whenever and in whatever order they were set.
func TestPlainOrder(t *testing.T) {
	w := New()
	for i, a := range []seq.Num{65535, 0, 40000, 32768, 1, 32767, 65534} {
		set(t, w, a, 10-i)
		ticks(t, w)
	}
	quiet(t, w, 2)
	ticks(t, w, 0, 1, 32767, 32768, 40000, 65534, 65535)
	quiet(t, w, 20)
}

func TestAllNumbersAtOneTick(t *testing.T) {
	w := New()
	for i := range 65536 {
		set(t, w, seq.Num(i*40503), 3)
	}
	if w.Len() != 65536 {
		t.Fatalf("%d are set", w.Len())
	}
	quiet(t, w, 2)
	l := w.Tick()
	if len(l) != 65536 || w.Len() != 0 {
		t.Fatalf("%d are due, %d are set still", len(l), w.Len())
	}
	for i, a := range l {
		if int(a) != i {
			t.Fatalf("%d stands at %d", a, i)
		}
	}
}

func TestANilWheel(t *testing.T) {
	var w *Wheel
	for _, in := range append(noIns(), 1, 2, 1000) {
		if e := w.Set(3, in); e != api.ErrArg {
			t.Errorf("Set(3, %d): %d, want ErrArg", in, e)
		}
	}
	if e := w.Drop(3); e != api.ErrArg {
		t.Errorf("Drop(3): %d, want ErrArg", e)
	}
	for range 3 {
		if l := w.Tick(); len(l) != 0 {
			t.Errorf("Tick() = %v", l)
		}
		if w.Now() != 0 || w.Len() != 0 {
			t.Errorf("the tick is %d, %d are set", w.Now(), w.Len())
		}
	}
}

// A wheel that New didn't make is as a new one.
func TestAnEmptyWheel(t *testing.T) {
	w := &Wheel{}
	if e := w.Drop(0); e != api.ErrMiss || w.Now() != 0 || w.Len() != 0 {
		t.Errorf("Drop(0): %d", e)
	}
	ticks(t, w)
	set(t, w, 1, 2)
	ticks(t, w)
	ticks(t, w, 1)
}

func TestWheelsAreApart(t *testing.T) {
	a, b := New(), New()
	set(t, a, 1, 1)
	set(t, b, 2, 1)
	a.Tick()
	if a.Now() != 1 || b.Now() != 0 || a.Len() != 0 || b.Len() != 1 {
		t.Error("one wheel turns another one")
	}
	ticks(t, b, 2)
}

// P19.2

// setting is a number and its tick, of a wheel in other words: a list, gone through each time.
type setting struct {
	a  seq.Num
	at int
}

// without is all but those of a number.
func without(all []setting, a seq.Num) []setting {
	return slices.DeleteFunc(all, func(s setting) bool { return s.a == a })
}

// dueAt is the numbers of a tick, rising.
func dueAt(all []setting, now int) []seq.Num {
	var l []seq.Num
	for a := range 65536 {
		if slices.Contains(all, setting{seq.Num(a), now}) {
			l = append(l, seq.Num(a))
		}
	}
	return l
}

func TestAgainstAModel(t *testing.T) {
	chance := rand.New(rand.NewPCG(19, 1))
	for _, most := range []int{1, 4, 16, 1000} {
		w := New()
		var all []setting
		now, due := 0, 0
		for range 3000 {
			a := seq.Num(chance.IntN(12)) * 5957
			in := chance.IntN(most+most/4+2) - most/8
			switch chance.IntN(8) {
			case 0:
				want := api.ErrMiss
				if slices.ContainsFunc(all, func(s setting) bool { return s.a == a }) {
					want = api.OK
				}
				all = without(all, a)
				if e := w.Drop(a); e != want {
					t.Fatalf("Drop(%d): %d, want %d", a, e, want)
				}
			case 1, 2, 3:
				want := api.ErrArg
				if in >= 1 && in <= 1000 {
					want = api.OK
					all = append(without(all, a), setting{a, now + in})
				}
				if e := w.Set(a, in); e != want {
					t.Fatalf("Set(%d, %d): %d, want %d", a, in, e, want)
				}
			default:
				now++
				var want []seq.Num
				if slices.ContainsFunc(all, func(s setting) bool { return s.at == now }) {
					want = dueAt(all, now)
				}
				for _, x := range want {
					all = without(all, x)
				}
				due += len(want)
				if l := w.Tick(); !slices.Equal(l, want) {
					t.Fatalf("at the tick %d: %v, want %v", now, l, want)
				}
			}
			if w.Now() != now || w.Len() != len(all) {
				t.Fatalf("the tick is %d, %d are set, want %d and %d", w.Now(), w.Len(), now, len(all))
			}
		}
		if most <= 16 && due < 100 || due == 0 {
			t.Errorf("in up to %d ticks: %d were due alone", most, due)
		}
	}
}

func TestDueJustOnce(t *testing.T) {
	w := New()
	want := map[seq.Num]int{}
	look := func() {
		for _, a := range w.Tick() {
			if at, there := want[a]; !there || at != w.Now() {
				t.Fatalf("%d is due at %d, want %d, %v", a, w.Now(), at, there)
			}
			delete(want, a)
		}
	}
	// Numbers that are set late are due among those that were set soon, and ahead of them.
	for i := range 3000 {
		a, in := seq.Num(i*21), i*617%1000+1
		set(t, w, a, in)
		want[a] = w.Now() + in
		if i%3 == 0 {
			look()
		}
	}
	for range 1000 {
		look()
	}
	if len(want) != 0 || w.Len() != 0 {
		t.Errorf("%d never were due, %d are set", len(want), w.Len())
	}
}

// What was due may be set again at once, and at the next tick is due anew, however often.
func TestSetAgainBehindItsTick(t *testing.T) {
	w := New()
	for i := range 200 {
		in := i%20 + 1
		set(t, w, 65535, in)
		quiet(t, w, in-1)
		ticks(t, w, 65535)
	}
}

// P19.3

func TestTickIsNewMemory(t *testing.T) {
	w := New()
	for a := range seq.Num(6) {
		set(t, w, a, 1+int(a)/3)
	}
	first := w.Tick()
	for all, i := first[:cap(first)], 0; i < len(all); i++ {
		all[i] = 7777
	}
	second := w.Tick()
	if !slices.Equal(second, []seq.Num{3, 4, 5}) {
		t.Fatalf("%v", second)
	}
	for a := range seq.Num(3) {
		set(t, w, 100+a, 1)
	}
	third := w.Tick()
	if !slices.Equal(second, []seq.Num{3, 4, 5}) || !slices.Equal(third, []seq.Num{100, 101, 102}) {
		t.Errorf("a list that was answered changes: %v, %v", second, third)
	}
}

// Rule 5 of the document: the same calls, the same answers, whatever way the numbers are gone through.
func TestAnswersAreAlwaysTheSame(t *testing.T) {
	run := func() []seq.Num {
		chance := rand.New(rand.NewPCG(19, 3))
		w := New()
		var all []seq.Num
		for range 500 {
			w.Set(seq.Num(chance.Uint32()), 1+chance.IntN(20))
			w.Set(seq.Num(chance.Uint32()), 1+chance.IntN(20))
			w.Set(seq.Num(chance.Uint32()), 1+chance.IntN(20))
			all = append(all, w.Tick()...)
		}
		return all
	}
	want := run()
	for range 10 {
		if !slices.Equal(run(), want) {
			t.Fatal("another answer of the same calls")
		}
	}
}

// P1 of the document

func TestNoCallPanics(t *testing.T) {
	for _, w := range []*Wheel{nil, {}, New()} {
		for _, a := range []seq.Num{0, 1, 32767, 32768, 65535} {
			for _, in := range append(noIns(), 1, 2, 1000) {
				w.Drop(a)
				w.Set(a, in)
				w.Tick()
				w.Now()
				w.Len()
			}
		}
	}
}
