package seq

import (
	"math"
	"math/rand/v2"
	"testing"
)

// round is how many numbers there are.
const round = 65536

// edges are numbers at both ends, at the middle, and near them.
func edges() []Num {
	return []Num{0, 1, 2, 3, 31, 32, 33, 255, 256, 257, 32766, 32767, 32768, 32769, 32770, 65279, 65280, 65503, 65504, 65533, 65534, 65535}
}

// counts are how far one may go: near 0, near whole and half rounds either way, and as far as ints go.
func counts() []int {
	l := []int{math.MinInt, math.MinInt + 1, math.MinInt32, math.MaxInt32, math.MaxInt - 1, math.MaxInt}
	for _, whole := range []int{0, round / 2, round, 3 * round / 2, 2 * round, 100 * round, 1 << 31, 1 << 32, 1 << 48, 1<<62 + 5*round} {
		for near := -3; near <= 3; near++ {
			l = append(l, whole+near, -whole+near)
		}
	}
	return l
}

// rest is what is left of n by whole rounds, from 0 on.
func rest(n int) int { return (n%round + round) % round }

// P14.1

func TestPlus(t *testing.T) {
	for _, c := range []struct {
		a    Num
		n    int
		want Num
	}{
		{65535, 2, 1},
		{65535, 1, 0},
		{65535, 0, 65535},
		{0, -1, 65535},
		{1, -3, 65534},
		{0, 0, 0},
		{0, 65535, 65535},
		{0, 65536, 0},
		{7, 65537, 8},
		{7, -65536, 7},
		{7, -65544, 65535},
		{32768, 32768, 0},
		{5, 1 << 40, 5},
		{5, -1 << 40, 5},
		{0, math.MaxInt, 65535},
		{1, math.MaxInt, 0},
		{3, math.MinInt, 3},
	} {
		if x := Plus(c.a, c.n); x != c.want {
			t.Errorf("Plus(%d, %d) = %d", c.a, c.n, x)
		}
	}
}

func TestPlusAtAllCounts(t *testing.T) {
	for _, a := range edges() {
		for _, n := range counts() {
			if x := Plus(a, n); int(x) != rest(rest(n)+int(a)) {
				t.Errorf("Plus(%d, %d) = %d", a, n, x)
			}
		}
		// By ones the same numbers come, either way, and all of them ahead of the first again.
		on, back := a, a
		for i := range round {
			if Plus(a, i) != on || Plus(a, -i) != back {
				t.Fatalf("Plus(%d, %d) = %d, back %d", a, i, Plus(a, i), Plus(a, -i))
			}
			on, back = Plus(on, 1), Plus(back, -1)
			if i < round-1 && (on == a || back == a) {
				t.Fatalf("%d comes round behind %d", a, i+1)
			}
		}
		if on != a || back != a {
			t.Errorf("%d doesn't come round: %d, %d", a, on, back)
		}
	}
}

func TestAhead(t *testing.T) {
	for _, c := range []struct {
		a, b Num
		want int
	}{
		{0, 0, 0},
		{65535, 65535, 0},
		{0, 1, 1},
		{1, 0, 65535},
		{65535, 0, 1},
		{65534, 1, 3},
		{0, 65535, 65535},
		{0, 32768, 32768},
		{32768, 0, 32768},
		{40000, 10000, 35536},
	} {
		if x := Ahead(c.a, c.b); x != c.want {
			t.Errorf("Ahead(%d, %d) = %d", c.a, c.b, x)
		}
	}
}

func TestAheadIsTheLeast(t *testing.T) {
	for _, a := range edges() {
		at := a
		for far := range round {
			if x := Ahead(a, at); x != far || Plus(a, x) != at {
				t.Fatalf("Ahead(%d, %d) = %d, not %d", a, at, x, far)
			}
			at = Plus(at, 1)
		}
	}
}

func TestBefore(t *testing.T) {
	for _, c := range []struct {
		a, b Num
		want bool
	}{
		{65535, 1, true},
		{1, 65535, false},
		{65534, 1, true},
		{1, 65534, false},
		{0, 0, false},
		{65535, 65535, false},
		{0, 1, true},
		{1, 0, false},
		{0, 32766, true},
		{0, 32767, true},
		{32767, 0, false},
		{0, 32768, false},
		{32768, 0, false},
		{0, 32769, false},
		{32769, 0, true},
		{50000, 17231, true},
		{50000, 17232, false},
		{17232, 50000, false},
		{50000, 17233, false},
		{17233, 50000, true},
	} {
		if x := Before(c.a, c.b); x != c.want {
			t.Errorf("Before(%d, %d) = %v", c.a, c.b, x)
		}
	}
}

func TestBeforeAtAllDistances(t *testing.T) {
	for _, a := range edges() {
		for far := range round {
			b := Num(rest(int(a) + far))
			if x := Before(a, b); x != (far >= 1 && far <= 32767) {
				t.Fatalf("Before(%d, %d) = %v, by %d", a, b, x, far)
			}
		}
	}
}

func TestWithin(t *testing.T) {
	for _, c := range []struct {
		base Num
		size int
		a    Num
		want bool
	}{
		{65534, 4, 1, true},
		{65534, 3, 1, false},
		{5, 0, 5, false},
		{5, 1, 5, true},
		{5, 1, 6, false},
		{5, 1, 4, false},
		{5, -1, 5, false},
		{5, -1, 4, false},
		{5, math.MinInt, 5, false},
		{5, 65535, 3, true},
		{5, 65535, 4, false},
		{5, 65536, 4, true},
		{5, 65537, 4, true},
		{5, 1 << 32, 4, true},
		{5, -1 << 32, 4, false},
		{5, math.MaxInt, 4, true},
		{0, 32768, 32767, true},
		{0, 32768, 32768, false},
	} {
		if x := Within(c.base, c.size, c.a); x != c.want {
			t.Errorf("Within(%d, %d, %d) = %v", c.base, c.size, c.a, x)
		}
	}
}

func TestWithinAtAllSizes(t *testing.T) {
	for _, base := range edges() {
		for _, size := range append(counts(), 4, 16, 31, 32, 33, 64) {
			for _, a := range edges() {
				if x := Within(base, size, a); x != (rest(int(a)-int(base)) < size) {
					t.Errorf("Within(%d, %d, %d) = %v", base, size, a, x)
				}
			}
		}
		for size := range 70 {
			within := 0
			for a := range round {
				if Within(base, size, Num(a)) {
					within++
				}
			}
			if within != size {
				t.Errorf("%d are within %d of %d", within, size, base)
			}
		}
	}
}

// P14.2

func TestOneIsBeforeTheOther(t *testing.T) {
	for _, a := range edges() {
		for x := range round {
			b := Num(x)
			there, back := Before(a, b), Before(b, a)
			// Those that are the same, and those that are half a round apart, are in no order.
			ordered := b != a && int(b) != rest(int(a)+32768)
			if there && back || (there || back) != ordered {
				t.Fatalf("%d and %d: before %v, behind %v", a, b, there, back)
			}
		}
	}
}

func TestOrderGoesWithBothMoved(t *testing.T) {
	chance := rand.New(rand.NewPCG(1, 2))
	for range 100000 {
		a, b, n := Num(chance.Uint32()), Num(chance.Uint32()), int(chance.Int64()-chance.Int64())
		x, y := Plus(a, n), Plus(b, n)
		if Ahead(a, b) != Ahead(x, y) || Before(a, b) != Before(x, y) || Plus(x, -n) != a {
			t.Fatalf("%d and %d by %d: %d and %d", a, b, n, x, y)
		}
	}
}

// P1 of the document

func TestNoCallPanics(t *testing.T) {
	for _, a := range edges() {
		for _, n := range counts() {
			Plus(a, n)
			for _, b := range edges() {
				Ahead(a, b)
				Before(a, b)
				Within(a, n, b)
			}
		}
	}
}
