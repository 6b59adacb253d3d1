package sched

import (
	"math"
	"slices"
	"testing"

	"shuttle/api"
)

func noBursts() []int {
	return []int{0, -1, -2, -4, 5, 6, 8, 1 << 32, 1<<32 + 1, -1 << 32, math.MaxInt, math.MinInt}
}

// plan is a new one of a burst.
func plan(t *testing.T, burst int) *Plan {
	t.Helper()
	p, e := New(burst)
	if p == nil || e != api.OK {
		t.Fatalf("New(%d) = %v, %d", burst, p, e)
	}
	return p
}

// P22.1

func TestNew(t *testing.T) {
	for burst := 1; burst <= 4; burst++ {
		if p := plan(t, burst); p.Tries() != 0 || p.Sent() != 0 {
			t.Errorf("New(%d): %d tries, %d sent", burst, p.Tries(), p.Sent())
		}
	}
	for _, burst := range noBursts() {
		if p, e := New(burst); p != nil || e != api.ErrArg {
			t.Errorf("New(%d) = %v, %d, want nothing and ErrArg", burst, p, e)
		}
	}
}

func TestNext(t *testing.T) {
	for burst, tries := range [][][]int{
		1: {{0}, {1}, {2}, {3}, {0}, {1}, {2}, {3}, {0}},
		2: {{0, 1}, {2}, {3}, {0}, {1}, {2}, {3}, {0}},
		3: {{0, 1, 2}, {3}, {0}, {1}, {2}, {3}, {0}},
		4: {{0, 1, 2, 3}, {0}, {1}, {2}, {3}, {0}},
	} {
		if burst == 0 {
			continue
		}
		p := plan(t, burst)
		sent := 0
		for i, want := range tries {
			if p.Tries() != i || p.Sent() != sent {
				t.Fatalf("burst %d: %d tries, %d sent, want %d and %d", burst, p.Tries(), p.Sent(), i, sent)
			}
			if l := p.Next(); !slices.Equal(l, want) {
				t.Fatalf("burst %d, try %d: %v, want %v", burst, i+1, l, want)
			}
			sent += len(want)
		}
		if p.Tries() != len(tries) || p.Sent() != sent {
			t.Errorf("burst %d: %d tries, %d sent, want %d and %d", burst, p.Tries(), p.Sent(), len(tries), sent)
		}
	}
}

func TestPlansAreApart(t *testing.T) {
	a, b := plan(t, 2), plan(t, 2)
	a.Next()
	a.Next()
	if b.Tries() != 0 || b.Sent() != 0 || !slices.Equal(b.Next(), []int{0, 1}) || a.Sent() != 3 || a.Tries() != 2 {
		t.Error("one plan moves another one")
	}
}

func TestANilPlan(t *testing.T) {
	var p *Plan
	for range 3 {
		if l := p.Next(); len(l) != 0 || p.Tries() != 0 || p.Sent() != 0 {
			t.Errorf("%v, %d tries, %d sent", l, p.Tries(), p.Sent())
		}
	}
}

// P22.2

func TestFourBehindEachOther(t *testing.T) {
	for burst := 1; burst <= 4; burst++ {
		p := plan(t, burst)
		var all []int
		for try := 1; try <= 1000; try++ {
			all = append(all, p.Next()...)
			if p.Tries() != try || p.Sent() != len(all) || len(all) != burst+try-1 {
				t.Fatalf("burst %d: %d tries, %d sent of %d", burst, p.Tries(), p.Sent(), len(all))
			}
		}
		for i := range len(all) - 3 {
			four := slices.Sorted(slices.Values(all[i : i+4]))
			if !slices.Equal(four, []int{0, 1, 2, 3}) {
				t.Fatalf("burst %d: %v at %d", burst, all[i:i+4], i)
			}
		}
	}
}

// P22.3

func TestNextIsNewMemory(t *testing.T) {
	for burst := 1; burst <= 4; burst++ {
		p, q := plan(t, burst), plan(t, burst)
		var kept [][]int
		for range 20 {
			l := p.Next()
			kept = append(kept, slices.Clone(l))
			for all, i := l[:cap(l)], 0; i < len(all); i++ {
				all[i] = 7777
			}
		}
		var same [][]int
		for range 20 {
			same = append(same, q.Next())
		}
		if !slices.EqualFunc(kept, same, slices.Equal) {
			t.Errorf("burst %d: what is done to an answer changes others: %v, %v", burst, kept, same)
		}
	}
}

// P1 of the document

func TestNoCallPanics(t *testing.T) {
	for _, burst := range append(noBursts(), 1, 2, 3, 4) {
		made, _ := New(burst)
		for _, p := range []*Plan{nil, {}, made} {
			for range 10 {
				p.Next()
				p.Tries()
				p.Sent()
			}
			if p.Sent() < 0 || p.Tries() < 0 {
				t.Errorf("%d tries, %d sent", p.Tries(), p.Sent())
			}
		}
	}
}
