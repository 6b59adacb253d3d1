package soft

import (
	"math"
	"math/rand/v2"
	"slices"
	"testing"

	"shuttle/api"
)

// some is n numbers from -31 to 31, and n bits, other ones for each n and each seed.
func some(n int, seed uint64) ([]int, []byte) {
	chance := rand.New(rand.NewPCG(uint64(n), seed))
	l, code := make([]int, n), make([]byte, n)
	for i := range l {
		l[i] = chance.IntN(63) - 31
		code[i] = byte(chance.Uint32() & 1)
	}
	return l, code
}

// lists are all lists of n bits.
func lists(n int) [][]byte {
	var all [][]byte
	for x := range 1 << n {
		l := make([]byte, n)
		for i := range l {
			l[i] = byte(x >> i & 1)
		}
		all = append(all, l)
	}
	return all
}

// outside are numbers that aren't from -31 to 31.
func outside() []int {
	return []int{32, 33, 62, 63, 64, 127, 256, 287, 1 << 32, math.MaxInt - 1, math.MaxInt, -32, -33, -62, -64, -128, -225, -1 << 32, math.MinInt + 1, math.MinInt}
}

// roomy is l with spare room behind it that holds marks, so that a write into that room shows.
func roomy[T byte | int](l ...T) []T {
	return append(slices.Clone(l), 99, 98, 97, 96, 95, 94, 93, 92)[:len(l)]
}

// whole is l and its spare room.
func whole[T any](l []T) []T { return slices.Clone(l[:cap(l)]) }

// spoil writes over all of l and its spare room.
func spoil[T byte | int](l []T) {
	for all, i := l[:cap(l)], 0; i < len(all); i++ {
		all[i] += 77
	}
}

// P8.1

func TestOf(t *testing.T) {
	if got := Of(0); got != 1 {
		t.Errorf("Of(0) = %d", got)
	}
	for b := 1; b < 256; b++ {
		if got := Of(byte(b)); got != -1 {
			t.Errorf("Of(%d) = %d", b, got)
		}
	}
}

func TestClip(t *testing.T) {
	for n := -31; n <= 31; n++ {
		if got := Clip(n); got != n {
			t.Errorf("Clip(%d) = %d", n, got)
		}
	}
	for _, n := range outside() {
		want := 31
		if n < 0 {
			want = -31
		}
		if got := Clip(n); got != want {
			t.Errorf("Clip(%d) = %d, want %d", n, got, want)
		}
	}
}

func TestAdd(t *testing.T) {
	for _, c := range []struct{ a, b, want int }{
		{20, 20, 31},
		{31, 1, 31},
		{-31, 5, -26},
		{0, 0, 0},
		{15, 16, 31},
		{16, 16, 31},
		{-15, -16, -31},
		{-16, -16, -31},
		{31, -31, 0},
		{31, 31, 31},
		{-31, -31, -31},
		// Each is clipped ahead of the sum.
		{100, -20, 11},
		{-20, 100, 11},
		{-32, 31, 0},
		{32, -31, 0},
		{1000, -1000, 0},
		{-100, 20, -11},
		{math.MaxInt, 1, 31},
		{math.MaxInt, math.MaxInt, 31},
		{math.MinInt, -1, -31},
		{math.MinInt, math.MinInt, -31},
		{math.MaxInt, math.MinInt, 0},
		{math.MinInt, math.MaxInt, 0},
		{math.MinInt, 31, 0},
	} {
		if got := Add(c.a, c.b); got != c.want {
			t.Errorf("Add(%d, %d) = %d, want %d", c.a, c.b, got, c.want)
		}
	}
}

func TestAddWithinTheBounds(t *testing.T) {
	for a := -31; a <= 31; a++ {
		for b := -31; b <= 31; b++ {
			want := a + b
			switch {
			case want > 31:
				want = 31
			case want < -31:
				want = -31
			}
			if got := Add(a, b); got != want {
				t.Errorf("Add(%d, %d) = %d, want %d", a, b, got, want)
			}
		}
	}
}

func TestAll(t *testing.T) {
	for _, c := range []struct {
		l    []byte
		want []int
	}{
		{nil, nil},
		{[]byte{}, nil},
		{[]byte{0}, []int{1}},
		{[]byte{1}, []int{-1}},
		{[]byte{0, 1, 1, 0}, []int{1, -1, -1, 1}},
		{[]byte{2, 0, 255, 128}, []int{-1, 1, -1, -1}},
	} {
		if got := All(c.l); !slices.Equal(got, c.want) {
			t.Errorf("All(%v) = %v, want %v", c.l, got, c.want)
		}
	}
}

func TestHard(t *testing.T) {
	for _, c := range []struct {
		l    []int
		want []byte
	}{
		{nil, nil},
		{[]int{}, nil},
		{[]int{0}, []byte{0}},
		{[]int{1, -1}, []byte{0, 1}},
		{[]int{31, -31, 0, -2, 2}, []byte{0, 1, 0, 1, 0}},
		{[]int{32, -32, math.MaxInt, math.MinInt}, []byte{0, 1, 0, 1}},
		{[]int{256, -256, 1 << 40, -1 << 40}, []byte{0, 1, 0, 1}},
	} {
		if got := Hard(c.l); !slices.Equal(got, c.want) {
			t.Errorf("Hard(%v) = %v, want %v", c.l, got, c.want)
		}
	}
}

func TestHardOfAll(t *testing.T) {
	for n := range 9 {
		for _, l := range lists(n) {
			if got := Hard(All(l)); !slices.Equal(got, l) {
				t.Errorf("%v, want %v", got, l)
			}
		}
	}
}

func TestScore(t *testing.T) {
	for _, c := range []struct {
		l    []int
		code []byte
		want int
	}{
		{nil, nil, 0},
		{[]int{}, nil, 0},
		{nil, []byte{}, 0},
		{[]int{1, -1}, []byte{0, 1}, 2},
		{[]int{1, -1}, []byte{1, 0}, -2},
		{[]int{1, -1}, []byte{0, 0}, 0},
		{[]int{0, 0, 0}, []byte{1, 0, 1}, 0},
		{[]int{31, -31}, []byte{0, 1}, 62},
		{[]int{31, -31}, []byte{1, 0}, -62},
		{[]int{31, -31}, []byte{1, 1}, 0},
		{[]int{5, 7, -2, 0, 30}, []byte{0, 1, 1, 1, 0}, 30},
	} {
		if got, e := Score(c.l, c.code); got != c.want || e != api.OK {
			t.Errorf("Score(%v, %v) = %d, %d, want %d", c.l, c.code, got, e, c.want)
		}
	}
}

func TestScoreIsWhatIsForLessWhatIsAgainst(t *testing.T) {
	for n := range 200 {
		l, code := some(n, 1)
		zeros, ones := 0, 0
		for i, x := range l {
			if code[i] == 0 {
				zeros += x
			} else {
				ones += x
			}
		}
		if got, e := Score(l, code); got != zeros-ones || e != api.OK {
			t.Errorf("Score(%v, %v) = %d, %d, want %d", l, code, got, e, zeros-ones)
		}
	}
	l, code := slices.Repeat([]int{-31}, 1<<17), slices.Repeat([]byte{1}, 1<<17)
	if got, e := Score(l, code); got != 31<<17 || e != api.OK {
		t.Errorf("of 2^17 that are sure: %d, %d", got, e)
	}
}

func TestScoreOfUnlikeLengths(t *testing.T) {
	for _, c := range []struct {
		l    []int
		code []byte
	}{
		{nil, []byte{0}},
		{[]int{1}, nil},
		{[]int{1}, []byte{0, 1}},
		{[]int{1, 2, 3}, []byte{0, 1}},
		// That they aren't of one length is looked for ahead of what they are.
		{[]int{32}, nil},
		{nil, []byte{2}},
		{[]int{32, 1}, []byte{2}},
		{[]int{-32}, []byte{0, 255}},
	} {
		if got, e := Score(c.l, c.code); got != 0 || e != api.ErrArg {
			t.Errorf("Score(%v, %v) = %d, %d, want ErrArg", c.l, c.code, got, e)
		}
	}
}

func TestScoreOfWhatIsNoCodeOrNoNumber(t *testing.T) {
	refused := func(l []int, code []byte) {
		t.Helper()
		if got, e := Score(l, code); got != 0 || e != api.ErrField {
			t.Errorf("Score(%v, %v) = %d, %d, want ErrField", l, code, got, e)
		}
	}
	for at := range 3 {
		for x := 2; x < 256; x++ {
			code := []byte{0, 1, 0}
			code[at] = byte(x)
			refused([]int{1, 2, 3}, code)
		}
		for _, x := range outside() {
			l := []int{1, 2, 3}
			l[at] = x
			refused(l, []byte{0, 1, 0})
			refused(l, []byte{0, 2, 0})
		}
	}
}

// P8.2

func TestTheBestScoreOfBitsIsTheirsAlone(t *testing.T) {
	for n := range 8 {
		for _, l := range lists(n) {
			best, e := Score(All(l), l)
			if best != n || e != api.OK {
				t.Fatalf("of %v: %d, %d", l, best, e)
			}
			for _, other := range lists(n) {
				if got, e := Score(All(l), other); e != api.OK || got > best || got == best && !slices.Equal(other, l) {
					t.Fatalf("of %v with %v: %d, %d; with itself %d", l, other, got, e, best)
				}
			}
		}
	}
}

func TestEachTurnedBitMakesTheScoreLess(t *testing.T) {
	_, code := some(2200, 2)
	l := All(code)
	for i := range code {
		code[i] ^= 1
		if got, e := Score(l, code); got != 2200-2*(i+1) || e != api.OK {
			t.Fatalf("with %d turned: %d, %d", i+1, got, e)
		}
	}
}

// P8.3

func TestNothingHandedInChanges(t *testing.T) {
	for _, code := range [][]byte{{}, {0}, {1, 0, 1}, {2, 255}} {
		code = roomy(code...)
		was := whole(code)
		All(code)
		Score(All(code), code)
		Score(nil, code)
		if !slices.Equal(whole(code), was) {
			t.Errorf("%v, want %v", whole(code), was)
		}
	}
	for _, l := range [][]int{{}, {0}, {1, -31, 31}, {32, -100}} {
		l = roomy(l...)
		was := whole(l)
		Hard(l)
		Score(l, make([]byte, len(l)))
		Score(l, nil)
		if !slices.Equal(whole(l), was) {
			t.Errorf("%v, want %v", whole(l), was)
		}
	}
}

func TestAnswersAreNewMemory(t *testing.T) {
	code, l := roomy[byte](0, 1, 1, 0, 1), roomy(3, -4, 0, 31, -31)
	wasCode, wasL := whole(code), whole(l)
	all, hard := All(code), Hard(l)
	keptAll, keptHard := slices.Clone(all), slices.Clone(hard)
	spoil(all)
	spoil(hard)
	if !slices.Equal(whole(code), wasCode) || !slices.Equal(whole(l), wasL) {
		t.Error("what was handed in changes with the answer")
	}
	all, hard = All(code), Hard(l)
	spoil(code)
	spoil(l)
	if !slices.Equal(all, keptAll) || !slices.Equal(hard, keptHard) {
		t.Errorf("%v, %v, want %v, %v", all, hard, keptAll, keptHard)
	}
}

func TestNothingIsKept(t *testing.T) {
	l, code := some(40, 3)
	first, _ := Score(l, code)
	Score(some(9, 4))
	Add(31, 31)
	if again, e := Score(l, code); again != first || e != api.OK {
		t.Errorf("%d, %d, ahead %d", again, e, first)
	}
	l[0], code[0] = 31, 0
	second, _ := Score(l, code)
	l[0] = -31
	if third, _ := Score(l, code); third != second-62 {
		t.Errorf("%d behind %d", third, second)
	}
}

// P1 of the document

func TestNoCallPanics(t *testing.T) {
	for b := range 256 {
		Of(byte(b))
	}
	for _, a := range append(outside(), -31, -1, 0, 1, 31) {
		Clip(a)
		for _, b := range append(outside(), -31, -1, 0, 1, 31) {
			Add(a, b)
		}
	}
	for _, code := range [][]byte{nil, {}, {1}, {255, 0, 2}, make([]byte, api.MaxBits+1)} {
		All(code)
		for _, l := range [][]int{nil, {}, {1}, {math.MinInt, math.MaxInt, 0}, make([]int, api.MaxBits+1)} {
			Hard(l)
			Score(l, code)
		}
	}
}
