package rate

import (
	"math"
	"math/rand/v2"
	"testing"

	"shuttle/api"
)

// policies are all there are.
func policies() []Policy {
	var l []Policy
	for level := range 3 {
		for run := range 4 {
			l = append(l, Policy{level, run})
		}
	}
	return l
}

// noPolicies have a level, a run or both that can't be.
func noPolicies() []Policy {
	var l []Policy
	for _, wrong := range []int{-1, -2, 4, 5, 1 << 32, -1 << 32, 1<<32 + 1, math.MaxInt, math.MinInt} {
		for right := range 3 {
			l = append(l, Policy{wrong, right}, Policy{right, wrong})
		}
		l = append(l, Policy{wrong, wrong})
	}
	for run := range 4 {
		l = append(l, Policy{3, run})
	}
	return l
}

// P21.1

func TestCheck(t *testing.T) {
	for _, p := range policies() {
		if e := Check(p); e != api.OK {
			t.Errorf("Check(%v): %d", p, e)
		}
	}
	for _, p := range noPolicies() {
		if e := Check(p); e != api.ErrArg {
			t.Errorf("Check(%v): %d, want ErrArg", p, e)
		}
	}
}

func TestBurst(t *testing.T) {
	for _, p := range policies() {
		want := []int{1, 2, 4}[p.Level]
		if n, e := Burst(p); n != want || e != api.OK {
			t.Errorf("Burst(%v) = %d, %d, want %d", p, n, e, want)
		}
	}
	for _, p := range noPolicies() {
		if n, e := Burst(p); n != 0 || e != api.ErrArg {
			t.Errorf("Burst(%v) = %d, %d, want 0 and ErrArg", p, n, e)
		}
	}
}

func TestDone(t *testing.T) {
	for _, c := range []struct {
		p     Policy
		tries int
		want  Policy
	}{
		{Policy{1, 3}, 1, Policy{0, 0}},
		{Policy{0, 0}, 1, Policy{0, 1}},
		{Policy{0, 1}, 1, Policy{0, 2}},
		{Policy{0, 2}, 1, Policy{0, 3}},
		{Policy{0, 3}, 1, Policy{0, 0}},
		{Policy{1, 0}, 1, Policy{1, 1}},
		{Policy{1, 1}, 1, Policy{1, 2}},
		{Policy{1, 2}, 1, Policy{1, 3}},
		{Policy{2, 0}, 1, Policy{2, 1}},
		{Policy{2, 1}, 1, Policy{2, 2}},
		{Policy{2, 2}, 1, Policy{2, 3}},
		{Policy{2, 3}, 1, Policy{1, 0}},
	} {
		if p, e := Done(c.p, c.tries); p != c.want || e != api.OK {
			t.Errorf("Done(%v, %d) = %v, %d, want %v", c.p, c.tries, p, e, c.want)
		}
	}
	for _, from := range policies() {
		if p, e := Done(from, 2); p != (Policy{from.Level, 0}) || e != api.OK {
			t.Errorf("Done(%v, 2) = %v, %d", from, p, e)
		}
		want := Policy{[]int{1, 2, 2}[from.Level], 0}
		for _, tries := range []int{3, 4, 5, 16, 1000, 1 << 31, 1<<32 + 1, 1<<32 + 2, math.MaxInt} {
			if p, e := Done(from, tries); p != want || e != api.OK {
				t.Errorf("Done(%v, %d) = %v, %d, want %v", from, tries, p, e, want)
			}
		}
	}
}

func TestDoneRefuses(t *testing.T) {
	wrongTries := []int{0, -1, -2, -1 << 32, 1 - 1<<32, math.MinInt}
	for _, tries := range wrongTries {
		for _, from := range append(policies(), noPolicies()...) {
			if p, e := Done(from, tries); p != (Policy{}) || e != api.ErrArg {
				t.Errorf("Done(%v, %d) = %v, %d, want none and ErrArg", from, tries, p, e)
			}
		}
	}
	for _, from := range noPolicies() {
		for _, tries := range []int{1, 2, 3, math.MaxInt} {
			if p, e := Done(from, tries); p != (Policy{}) || e != api.ErrArg {
				t.Errorf("Done(%v, %d) = %v, %d, want none and ErrArg", from, tries, p, e)
			}
		}
	}
}

// From the highest level on, the lowest one is come to behind eight messages that went well, and stays.
func TestDownAgain(t *testing.T) {
	p := Policy{2, 0}
	for i := 1; i <= 20; i++ {
		p, _ = Done(p, 1)
		if want := (Policy{max(2-i/4, 0), i % 4}); p != want {
			t.Fatalf("behind %d: %v, want %v", i, p, want)
		}
	}
}

// P21.2

func TestAPolicyStaysOne(t *testing.T) {
	for _, from := range policies() {
		for tries := 1; tries <= 100; tries++ {
			if p, e := Done(from, tries); e != api.OK || Check(p) != api.OK {
				t.Errorf("Done(%v, %d) = %v, %d", from, tries, p, e)
			}
		}
	}
	chance := rand.New(rand.NewPCG(21, 2))
	seen := map[Policy]bool{}
	p := Policy{}
	for range 10000 {
		p, _ = Done(p, 1+max(0, chance.IntN(8)-4))
		if n, e := Burst(p); e != api.OK || n < 1 || n > 4 {
			t.Fatalf("Burst(%v) = %d, %d", p, n, e)
		}
		seen[p] = true
	}
	if len(seen) != len(policies()) {
		t.Errorf("%d policies were come to alone", len(seen))
	}
}
