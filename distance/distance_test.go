package distance

import (
	"math"
	"math/rand/v2"
	"slices"
	"testing"

	"shuttle/api"
	"shuttle/conv"
	"shuttle/pattern"
)

// some is n bits, other ones for each n and each seed.
func some(n int, seed uint64) []byte {
	chance := rand.New(rand.NewPCG(uint64(n), seed))
	l := make([]byte, n)
	for i := range l {
		l[i] = byte(chance.Uint32() & 1)
	}
	return l
}

// weights are all of numbers below n for each version.
func weights(n int) [][4]int {
	var all [][4]int
	for x := range n * n * n * n {
		all = append(all, [4]int{x % n, x / n % n, x / n / n % n, x / n / n / n})
	}
	return all
}

// heavy is the weight of a code's bits that are 1, by the places of the versions.
func heavy(code []byte, w [4]int) int {
	sum := 0
	for v := range 4 {
		places, _ := pattern.Places(v, len(code)/4)
		for _, at := range places {
			sum += int(code[at]) * w[v]
		}
	}
	return sum
}

// code is that of a list that has one.
func code(l []byte) []byte {
	c, _ := conv.Code(l)
	return c
}

// either is two lists by exclusive or.
func either(a, b []byte) []byte {
	l := slices.Clone(a)
	for i := range l {
		l[i] ^= b[i]
	}
	return l
}

// ones is how many bits of each version a code tells that are 1.
func ones(code []byte) [4]int {
	var n [4]int
	for v := range n {
		var w [4]int
		w[v] = 1
		n[v] = heavy(code, w)
	}
	return n
}

// shorts are the lists of up to so many bits with a 1 at either end, with up to three noughts
// ahead of it, so that what they tell starts at steps of each remainder; each by what it weighs.
func shorts(most int) [][4]int {
	var all [][4]int
	for n := 1; n <= most; n++ {
		for x := 1; x < 1<<n; x += 2 {
			if x>>(n-1) == 0 {
				continue
			}
			for ahead := range 4 {
				l := make([]byte, ahead+n)
				for i := range n {
					l[ahead+i] = byte(x >> i & 1)
				}
				all = append(all, ones(code(l)))
			}
		}
	}
	return all
}

// lightest is the least weight of some of which it is known how many bits of each version are 1.
func lightest(all [][4]int, w [4]int) int {
	least := math.MaxInt
	for _, n := range all {
		least = min(least, n[0]*w[0]+n[1]*w[1]+n[2]*w[2]+n[3]*w[3])
	}
	return least
}

// coder is the coder's steps, looked up once.
type coder struct {
	next [64][2]int
	out  [64][2][4]byte
}

func steps() *coder {
	c := &coder{}
	for state := range 64 {
		for in := range 2 {
			c.next[state][in], _ = conv.Next(state, byte(in))
			c.out[state][in], _ = conv.Out(state, byte(in))
		}
	}
	return c
}

// byLength is Least in other words: of all detours of just so many steps the least, for each
// start and each count. One that comes twice to a state at a step of one remainder can leave out
// what lies between, and gets no heavier: so no more than 4 times 63 steps inside must be tried.
func (c *coder) byLength(w [4]int) int {
	const none = 1 << 30
	least := none
	for start := range 4 {
		at := slices.Repeat([]int{none}, 64)
		at[0] = 0
		for count := range 260 {
			behind := slices.Repeat([]int{none}, 64)
			step := start + count
			for state := range 64 {
				for in := range 2 {
					if count == 0 && (state != 0 || in == 0) || at[state] == none {
						continue
					}
					sum := at[state]
					for v := range 4 {
						sum += int(c.out[state][in][(v+step)%4]) * w[v]
					}
					to := c.next[state][in]
					behind[to] = min(behind[to], sum)
				}
			}
			least = min(least, behind[0])
			behind[0] = none
			at = behind
		}
	}
	return least
}

// P12.1

func TestLeastAndMends(t *testing.T) {
	for _, c := range []struct {
		w            [4]int
		least, mends int
	}{
		{[4]int{0, 0, 0, 0}, 0, 0},
		// Each version alone: a detour's first edge and its last one tell four ones.
		{[4]int{1, 0, 0, 0}, 2, 0},
		{[4]int{0, 1, 0, 0}, 2, 0},
		{[4]int{0, 0, 1, 0}, 2, 0},
		{[4]int{0, 0, 0, 1}, 2, 0},
		{[4]int{2, 0, 0, 0}, 4, 1},
		{[4]int{7, 0, 0, 0}, 14, 6},
		{[4]int{0, 0, 0, 7}, 14, 6},
		{[4]int{1, 1, 0, 0}, 7, 3},
		{[4]int{1, 0, 1, 0}, 8, 3},
		{[4]int{1, 1, 1, 0}, 14, 6},
		{[4]int{1, 1, 1, 1}, 20, 9},
		{[4]int{2, 2, 2, 2}, 40, 19},
		{[4]int{1, 2, 3, 4}, 46, 22},
		{[4]int{7, 1, 0, 0}, 20, 9},
		{[4]int{7, 7, 7, 7}, 140, 69},
	} {
		if got, e := Least(c.w); got != c.least || e != api.OK {
			t.Errorf("Least(%v) = %d, %d, want %d", c.w, got, e, c.least)
		}
		if got, e := Mends(c.w); got != c.mends || e != api.OK {
			t.Errorf("Mends(%v) = %d, %d, want %d", c.w, got, e, c.mends)
		}
	}
}

func TestLeastIsThatByLength(t *testing.T) {
	c := steps()
	all := weights(4)
	chance := rand.New(rand.NewPCG(12, 1))
	for range 200 {
		all = append(all, [4]int{chance.IntN(8), chance.IntN(8), chance.IntN(8), chance.IntN(8)})
	}
	for v := range 4 {
		for n := range 8 {
			w := [4]int{7, 7, 7, 7}
			w[v] = n
			all = append(all, w)
			w = [4]int{}
			w[v] = n
			all = append(all, w)
		}
	}
	for _, w := range all {
		if got, e := Least(w); got != c.byLength(w) || e != api.OK {
			t.Fatalf("Least(%v) = %d, %d, want %d", w, got, e, c.byLength(w))
		}
	}
}

// A detour is what a list tells from its first 1 to six noughts behind its last one: short lists
// tell none lighter than Least, and where several versions came, one as light.
func TestLeastIsThatOfShortLists(t *testing.T) {
	all := shorts(10)
	for _, w := range weights(8) {
		least, _ := Least(w)
		if lightest(all, w) < least {
			t.Fatalf("Least(%v) = %d, and a list's code weighs %d", w, least, lightest(all, w))
		}
		if min(w[0], w[1], w[2], w[3]) > 0 && lightest(all, w) != least {
			t.Fatalf("Least(%v) = %d, and no short list's code weighs less than %d", w, least, lightest(all, w))
		}
	}
}

// A detour starts at any step: so it is the same, whichever version is the first one.
func TestLeastOfWeightsGoneRound(t *testing.T) {
	for _, w := range weights(8) {
		round := [4]int{w[3], w[0], w[1], w[2]}
		a, _ := Least(w)
		b, _ := Least(round)
		if a != b {
			t.Fatalf("Least(%v) = %d, Least(%v) = %d", w, a, round, b)
		}
	}
}

func TestMendsIsTheGreatestWhoseDoubleIsBelow(t *testing.T) {
	for _, w := range weights(8) {
		least, _ := Least(w)
		want := 0
		for n := range 200 {
			if 2*n < least {
				want = n
			}
		}
		if got, e := Mends(w); got != want || e != api.OK {
			t.Fatalf("Mends(%v) = %d, %d, want %d (of %d)", w, got, e, want, least)
		}
	}
}

func TestWeightsAtAndBeyondTheBounds(t *testing.T) {
	for v := range 4 {
		for _, n := range []int{0, 1, 6, 7} {
			w := [4]int{3, 3, 3, 3}
			w[v] = n
			if got, e := Least(w); got == 0 || e != api.OK {
				t.Errorf("Least(%v) = %d, %d", w, got, e)
			}
			if got, e := Mends(w); got == 0 || e != api.OK {
				t.Errorf("Mends(%v) = %d, %d", w, got, e)
			}
		}
		for _, n := range []int{-1, -2, -7, -8, 8, 9, 31, 1 << 32, -1 << 32, math.MaxInt, math.MinInt} {
			for _, others := range []int{0, 3, 7} {
				w := [4]int{others, others, others, others}
				w[v] = n
				if got, e := Least(w); got != 0 || e != api.ErrArg {
					t.Errorf("Least(%v) = %d, %d, want 0 and ErrArg", w, got, e)
				}
				if got, e := Mends(w); got != 0 || e != api.ErrArg {
					t.Errorf("Mends(%v) = %d, %d, want 0 and ErrArg", w, got, e)
				}
			}
		}
	}
}

// P12.2

func TestTwoUnlikeListsCodes(t *testing.T) {
	chance := rand.New(rand.NewPCG(12, 2))
	for range 3000 {
		n := 1 + chance.IntN(40)
		a, b := some(n, chance.Uint64()), some(n, chance.Uint64())
		if chance.IntN(2) == 0 {
			// Near each other: a few bits turned, side by side.
			b = slices.Clone(a)
			for i, at := 0, chance.IntN(n); i < 5 && at+i < n; i++ {
				b[at+i] ^= byte(chance.IntN(2))
			}
		}
		if slices.Equal(a, b) {
			continue
		}
		w := [4]int{chance.IntN(8), chance.IntN(8), chance.IntN(8), chance.IntN(8)}
		least, _ := Least(w)
		if got := heavy(either(code(a), code(b)), w); got < least {
			t.Fatalf("the codes of %v and %v are unlike in bits of the weight %d, below %d of %v", a, b, got, least, w)
		}
	}
}

// A list and the one that is told by turning one bit of it are as near as two can be, by all
// versions alike; and wherever the bit stands.
func TestTwoListsAsNearAsTwoCanBe(t *testing.T) {
	for at := range 12 {
		a := some(12, 3)
		b := slices.Clone(a)
		b[at] ^= 1
		for n := range 8 {
			w := [4]int{n, n, n, n}
			least, _ := Least(w)
			if got := heavy(either(code(a), code(b)), w); got != least {
				t.Errorf("unlike in bits of the weight %d, want %d", got, least)
			}
		}
	}
}

// P12.3

func TestWithMoreWeightItIsNeverLess(t *testing.T) {
	for _, w := range weights(8) {
		least, _ := Least(w)
		mends, _ := Mends(w)
		for v := range 4 {
			more := w
			if more[v]++; more[v] > 7 {
				continue
			}
			if got, e := Least(more); got < least || e != api.OK {
				t.Fatalf("Least(%v) = %d, Least(%v) = %d, %d", w, least, more, got, e)
			}
			if got, e := Mends(more); got < mends || e != api.OK {
				t.Fatalf("Mends(%v) = %d, Mends(%v) = %d, %d", w, mends, more, got, e)
			}
		}
	}
}

// Nothing is kept from call to call, and weights are handed in as a value.
func TestNothingIsKept(t *testing.T) {
	w := [4]int{3, 1, 4, 1}
	least, _ := Least(w)
	mends, _ := Mends(w)
	Least([4]int{7, 7, 7, 7})
	Least([4]int{8, 0, 0, 0})
	Mends([4]int{})
	if got, _ := Least(w); got != least {
		t.Errorf("%d, ahead %d", got, least)
	}
	if got, _ := Mends(w); got != mends {
		t.Errorf("%d, ahead %d", got, mends)
	}
}

// P1 of the document

func TestNoCallPanics(t *testing.T) {
	numbers := []int{math.MinInt, -1, 0, 7, 8, math.MaxInt}
	for _, a := range numbers {
		for _, b := range numbers {
			for _, w := range [][4]int{{a, b, a, b}, {b, b, b, a}, {0, a, b, 0}} {
				Least(w)
				Mends(w)
			}
		}
	}
}
