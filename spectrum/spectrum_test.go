package spectrum

import (
	"math"
	"math/bits"
	"math/rand/v2"
	"slices"
	"testing"

	"shuttle/api"
	"shuttle/conv"
	"shuttle/distance"
	"shuttle/pattern"
)

// counts is what must be answered by Count.
func counts(t *testing.T, w [4]int, phase, steps, most int) []int {
	t.Helper()
	l, e := Count(w, phase, steps, most)
	if e != api.OK || len(l) != most+1 {
		t.Fatalf("Count(%v, %d, %d, %d) = %d numbers, %d, want %d", w, phase, steps, most, len(l), e, most+1)
	}
	return l
}

// all is how many detours there are of at most so many steps, of whatever weight: without weights all have the weight 0.
func all(t *testing.T, steps int) int {
	t.Helper()
	return counts(t, [4]int{}, steps%4, steps, 0)[0]
}

func someWeights(chance *rand.Rand) [4]int {
	most := []int{1, 2, 3, 8}[chance.IntN(4)]
	return [4]int{chance.IntN(most), chance.IntN(most), chance.IntN(most), chance.IntN(most)}
}

// P32.1

func TestExample(t *testing.T) {
	for phase := range 4 {
		for _, n := range []int{0, 1, 2, 3, 7} {
			w := [4]int{n, n, n, n}
			l := counts(t, w, phase, 7, 400)
			if at, n := First(l); n != 1 || at != 20*w[0] {
				t.Errorf("the first weight is %d, of %d", at, n)
			}
			// The list 1 tells the detour 1000000: it is the only one.
			if i, n := First(l[20*w[0]+1:]); i != -1 || n != 0 {
				t.Errorf("there are %d more", n)
			}
			if i, n := First(counts(t, w, phase, 6, 400)); i != -1 || n != 0 {
				t.Errorf("with six edges there are %d of the weight %d", n, i)
			}
		}
	}
}

// ones is how many bits that are 1 of each version a code has whose first step is of a phase.
func ones(code []byte, phase int) [4]int {
	var n [4]int
	for i, b := range code {
		v, _ := pattern.Version(i%4, phase+i/4)
		n[v] += int(b)
	}
	return n
}

func weigh(n, w [4]int) int { return n[0]*w[0] + n[1]*w[1] + n[2]*w[2] + n[3]*w[3] }

// lists are all of n bits with a 1 at either end, and no six noughts side by side.
func lists(n int) [][]byte {
	var found [][]byte
	for x := 1; x < 1<<n; x += 2 {
		l, row, longest := make([]byte, n), 0, 0
		for i := range l {
			l[i] = byte(x >> i & 1)
			if row++; l[i] == 1 {
				row = 0
			}
			longest = max(longest, row)
		}
		if l[n-1] == 1 && longest < 6 {
			found = append(found, l)
		}
	}
	return found
}

// A detour is what a list tells that begins and ends with a 1 and has no six noughts side by side, with six behind it.
func TestCountIsThatOfLists(t *testing.T) {
	chance := rand.New(rand.NewPCG(32, 1))
	for phase := range 4 {
		var told [][4]int
		for steps := 0; steps <= 18; steps++ {
			if steps > 6 {
				for _, l := range lists(steps - 6) {
					code, _ := conv.Code(l)
					told = append(told, ones(code, phase))
				}
			}
			for range 12 {
				w, most := someWeights(chance), chance.IntN(401)
				want := make([]int, most+1)
				for _, n := range told {
					if sum := weigh(n, w); sum <= most {
						want[sum]++
					}
				}
				if got := counts(t, w, phase, steps, most); !slices.Equal(got, want) {
					t.Fatalf("Count(%v, %d, %d, %d) = %v, want %v", w, phase, steps, most, got, want)
				}
			}
		}
	}
}

// told is how many detours there are of each count of edges, and of bits that are 1 in each version, if they begin at
// the phase 0.
type told map[[5]int]int

// tell is all of up to so many edges: of each list the streams are products of it and of what the list 1 tells, a step
// a bit.
func tell(most int) told {
	code, _ := conv.Code([]byte{1})
	var stands [4][4]uint64
	for stream := range 4 {
		for step := range most {
			v, _ := pattern.Version(stream, step)
			stands[stream][v] |= 1 << step
		}
	}
	all := told{}
	for n := 1; n+6 <= most; n++ {
		for x := uint64(1)<<(n-1) | 1; x < 1<<n; x += 2 {
			no := ^x & (1<<n - 1)
			if no&(no>>1)&(no>>2)&(no>>3)&(no>>4)&(no>>5) != 0 {
				continue
			}
			key := [5]int{n + 6}
			for stream := range 4 {
				var product uint64
				for step := range 7 {
					product ^= x * uint64(code[4*step+stream]) << step
				}
				for v := range 4 {
					key[1+v] += bits.OnesCount64(product & stands[stream][v])
				}
			}
			all[key]++
		}
	}
	return all
}

// count is Count by what is told: at another phase another version is the first one.
func (all told) count(w [4]int, phase, steps, most int) []int {
	l := make([]int, most+1)
	round := [4]int{w[(4-phase)%4], w[(5-phase)%4], w[(6-phase)%4], w[(7-phase)%4]}
	for key, n := range all {
		if sum := weigh([4]int(key[1:]), round); key[0] <= steps && sum <= most {
			l[sum] += n
		}
	}
	return l
}

func TestCountIsThatOfAllUpToTheMostSteps(t *testing.T) {
	chance := rand.New(rand.NewPCG(32, 2))
	all := tell(30)
	for steps := range 31 {
		for i := range 12 {
			w, phase, most := someWeights(chance), i%4, chance.IntN(401)
			if i > 8 {
				most = 400
			}
			want := all.count(w, phase, steps, most)
			if got := counts(t, w, phase, steps, most); !slices.Equal(got, want) {
				t.Fatalf("Count(%v, %d, %d, %d) = %v, want %v", w, phase, steps, most, got, want)
			}
		}
	}
}

// What is asked for is a part of what is asked for with more weight.
func TestCountUpToEachWeight(t *testing.T) {
	for _, w := range [][4]int{{1, 2, 3, 4}, {7, 7, 7, 7}, {0, 0, 0, 1}, {0, 0, 0, 0}} {
		long := counts(t, w, 1, 20, 400)
		for most := 0; most <= 400; most += 1 + most/40 {
			if got := counts(t, w, 1, 20, most); !slices.Equal(got, long[:most+1]) {
				t.Fatalf("Count of %v up to %d: %v, want %v", w, most, got, long[:most+1])
			}
		}
	}
}

func TestCountRefuses(t *testing.T) {
	far := []int{1 << 32, 1<<32 + 1, -1 << 32, math.MaxInt, math.MinInt}
	refused := func(w [4]int, phase, steps, most int) {
		t.Helper()
		if l, e := Count(w, phase, steps, most); len(l) != 0 || e != api.ErrArg {
			t.Errorf("Count(%v, %d, %d, %d) = %v, %d, want nothing and ErrArg", w, phase, steps, most, l, e)
		}
	}
	for v := range 4 {
		for _, n := range append(far, -8, -7, -1, 8, 9, 15) {
			w := [4]int{3, 3, 3, 3}
			w[v] = n
			refused(w, 0, 10, 50)
		}
		w := [4]int{}
		for _, n := range []int{0, 7} {
			w[v] = n
			counts(t, w, 0, 10, 50)
		}
	}
	for _, phase := range append(far, -4, -1, 4, 5, 8) {
		refused([4]int{1, 1, 1, 1}, phase, 10, 50)
	}
	for _, steps := range append(far, -2, -1, 31, 32, 64) {
		refused([4]int{1, 1, 1, 1}, 3, steps, 50)
	}
	for _, most := range append(far, -2, -1, 401, 402) {
		refused([4]int{1, 1, 1, 1}, 3, 30, most)
	}
	// Between the bounds all is answered, at their ends, too.
	for phase := range 4 {
		for steps := range 31 {
			for _, most := range []int{0, 1, 399, 400} {
				counts(t, [4]int{7, 0, 7, 0}, phase, steps, most)
			}
		}
	}
}

func TestFirst(t *testing.T) {
	for _, c := range []struct {
		l     []int
		at, n int
	}{
		{nil, -1, 0},
		{[]int{}, -1, 0},
		{[]int{0}, -1, 0},
		{make([]int, 500), -1, 0},
		{[]int{5}, 0, 5},
		{[]int{-5, 1}, 0, -5},
		{[]int{0, 0, 3, 4}, 2, 3},
		{[]int{0, -1, 0, 4}, 1, -1},
		{[]int{0, 0, 0, math.MinInt}, 3, math.MinInt},
		{[]int{0, math.MaxInt}, 1, math.MaxInt},
		{append(make([]int, 1<<20), 1), 1 << 20, 1},
	} {
		if at, n := First(c.l); at != c.at || n != c.n {
			t.Errorf("First of %d numbers: %d, %d, want %d, %d", len(c.l), at, n, c.at, c.n)
		}
	}
}

// P32.2

func TestNoDetourWeighsLessThanTheLeast(t *testing.T) {
	chance := rand.New(rand.NewPCG(32, 3))
	for range 80 {
		w := someWeights(chance)
		least, _ := distance.Least(w)
		lightest := math.MaxInt
		for phase := range 4 {
			at, _ := First(counts(t, w, phase, 30, 400))
			if at < least {
				t.Fatalf("of %v at the phase %d one weighs %d, below %d", w, phase, at, least)
			}
			lightest = min(lightest, at)
		}
		// Where all versions came, one as light is short.
		if min(w[0], w[1], w[2], w[3]) > 0 && lightest != least {
			t.Fatalf("of %v the lightest one weighs %d, and the least is %d", w, lightest, least)
		}
	}
}

// P32.3

func TestHowManyThereAre(t *testing.T) {
	for n := 1; n <= 24; n++ {
		want := all(t, n+6) - all(t, n+5)
		if n <= 16 && want != len(lists(n)) {
			t.Errorf("of %d edges there are %d, want %d", n+6, want, len(lists(n)))
		}
		if n == 1 && want != 1 || n >= 2 && n <= 6 && want != 1<<(n-2) {
			t.Errorf("of %d edges there are %d", n+6, want)
		}
		// Behind the first 1 the next one stands one to six places on.
		if n > 6 {
			sum := 0
			for m := n - 6; m < n; m++ {
				sum += all(t, m+6) - all(t, m+5)
			}
			if want != sum {
				t.Errorf("of %d edges there are %d, want %d", n+6, want, sum)
			}
		}
	}
	for steps := range 7 {
		if n := all(t, steps); n != 0 {
			t.Errorf("of %d edges there are %d", steps, n)
		}
	}
}

// P32.4

func TestNothingIsKeptOrShared(t *testing.T) {
	w := [4]int{1, 2, 3, 4}
	want := slices.Clone(counts(t, w, 2, 25, 300))
	for range 3 {
		l := counts(t, w, 2, 25, 300)
		if !slices.Equal(l, want) {
			t.Fatalf("%v, want %v", l, want)
		}
		for all, i := l[:cap(l)], 0; i < len(all); i++ {
			all[i] = -9
		}
	}
	l := []int{0, 0, 7, 0, 3}
	First(l[:3])
	if !slices.Equal(l, []int{0, 0, 7, 0, 3}) {
		t.Errorf("what was handed in was changed: %v", l)
	}
}
