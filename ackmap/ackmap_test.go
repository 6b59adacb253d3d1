package ackmap

import (
	"math"
	"math/rand/v2"
	"slices"
	"testing"

	"shuttle/api"
	"shuttle/seq"
)

// bases are numbers at both ends, at the middle, and near them.
func bases() []seq.Num {
	return []seq.Num{0, 1, 5, 31, 32, 33, 1000, 32735, 32736, 32767, 32768, 32769, 65500, 65502, 65503, 65504, 65534, 65535}
}

// mores are bits of maps: none, all, one alone, all but one, others.
func mores() []uint32 {
	l := []uint32{0, math.MaxUint32, 3, 0xAAAAAAAA, 0x55555555, 0x12345678, 0xFFFF0000, 0xFFFF}
	for i := range 32 {
		l = append(l, 1<<i, ^uint32(1<<i))
	}
	return l
}

// by is the number so far ahead of a, or before it, in ints that don't come round by themselves.
func by(a seq.Num, n int) seq.Num { return seq.Num(((int(a)+n)%65536 + 65536) % 65536) }

// told is what a map of a base says of the number so far ahead of it, in other words: of all numbers the first 32767 before the base have come, and those that are named.
func told(more uint32, far int) bool {
	if far >= 32769 {
		return true
	}
	for i := range 32 {
		if far == i+1 {
			return more>>i&1 == 1
		}
	}
	return false
}

// named are the numbers that a map's bits name, in order.
func named(base seq.Num, more uint32) []seq.Num {
	var l []seq.Num
	for i := range 32 {
		if more>>i&1 == 1 {
			l = append(l, by(base, i+1))
		}
	}
	return l
}

// roomy is l with spare room behind it that holds marks, so that a write into that room shows.
func roomy(l []seq.Num) []seq.Num {
	return append(slices.Clone(l), 9999, 9998, 9997, 9996, 9995, 9994)[:len(l)]
}

// whole is l and its spare room.
func whole(l []seq.Num) []seq.Num { return slices.Clone(l[:cap(l)]) }

// spoil writes over a list and its spare room.
func spoil(l []seq.Num) {
	for all, i := l[:cap(l)], 0; i < len(all); i++ {
		all[i] ^= 0xFFFF
	}
}

// P15.1

func TestOf(t *testing.T) {
	for _, c := range []struct {
		base seq.Num
		come []seq.Num
		want uint32
		err  api.Errno
	}{
		{5, []seq.Num{7, 6}, 3, api.OK},
		{5, []seq.Num{6, 7}, 3, api.OK},
		{5, []seq.Num{6, 7, 6, 6, 7}, 3, api.OK},
		{5, nil, 0, api.OK},
		{5, []seq.Num{}, 0, api.OK},
		{0, nil, 0, api.OK},
		{65535, []seq.Num{1, 0, 65530}, 3, api.OK},
		{5, []seq.Num{6}, 1, api.OK},
		{5, []seq.Num{36}, 1 << 30, api.OK},
		{5, []seq.Num{37}, 1 << 31, api.OK},
		{5, []seq.Num{38}, 0, api.ErrFar},
		{5, []seq.Num{5}, 0, api.ErrForm},
		{5, []seq.Num{4}, 0, api.OK},
		{5, []seq.Num{4, 0, 65535, 40000, 32774}, 0, api.OK},
		{5, []seq.Num{4, 8, 3}, 4, api.OK},
		// 32767 ahead, half a round ahead, and 32767 before.
		{5, []seq.Num{32772}, 0, api.ErrFar},
		{5, []seq.Num{32773}, 0, api.ErrFar},
		{5, []seq.Num{32774}, 0, api.OK},
		{0, []seq.Num{33}, 0, api.ErrFar},
		{0, []seq.Num{0}, 0, api.ErrForm},
		{65520, []seq.Num{16}, 1 << 31, api.OK},
		{65520, []seq.Num{17}, 0, api.ErrFar},
		{65535, []seq.Num{65535}, 0, api.ErrForm},
	} {
		want := Map{c.base, c.want}
		if c.err != api.OK {
			want = Map{}
		}
		if m, e := Of(c.base, c.come); m != want || e != c.err {
			t.Errorf("Of(%d, %v) = %v, %d", c.base, c.come, m, e)
		}
	}
}

func TestOfEachNumberAlone(t *testing.T) {
	for _, base := range bases() {
		for far := range 65536 {
			m, e := Of(base, []seq.Num{by(base, far)})
			want, err := Map{Base: base}, api.OK
			switch {
			case far == 0:
				want, err = Map{}, api.ErrForm
			case far <= 32:
				want.More = 1 << (far - 1)
			case far <= 32768:
				want, err = Map{}, api.ErrFar
			}
			if m != want || e != err {
				t.Fatalf("Of(%d, %d ahead) = %v, %d", base, far, m, e)
			}
		}
	}
}

func TestOfTellsFarFirst(t *testing.T) {
	for _, base := range bases() {
		same, before, near, last := base, by(base, -1), by(base, 1), by(base, 32)
		for _, far := range []seq.Num{by(base, 33), by(base, 34), by(base, 32767), by(base, 32768)} {
			for _, come := range [][]seq.Num{{far, same}, {same, far}, {near, same, far}, {same, near, before, far, last}, {before, far, near, same}, {same, same, far, same}} {
				if m, e := Of(base, come); m != (Map{}) || e != api.ErrFar {
					t.Errorf("Of(%d, %v) = %v, %d", base, come, m, e)
				}
			}
		}
		for _, come := range [][]seq.Num{{same, near}, {near, same}, {before, same, last}, {last, before, same}} {
			if m, e := Of(base, come); m != (Map{}) || e != api.ErrForm {
				t.Errorf("Of(%d, %v) = %v, %d", base, come, m, e)
			}
		}
	}
}

func TestHas(t *testing.T) {
	m := Map{Base: 5, More: 3}
	for _, c := range []struct {
		a    seq.Num
		want bool
	}{
		{5, false}, {6, true}, {7, true}, {8, false}, {37, false}, {38, false},
		{4, true}, {0, true}, {65535, true}, {32774, true}, {32773, false}, {32772, false},
	} {
		if x := Has(m, c.a); x != c.want {
			t.Errorf("Has(%v, %d) = %v", m, c.a, x)
		}
	}
}

func TestHasAtAllNumbers(t *testing.T) {
	for _, base := range bases() {
		for _, more := range []uint32{0, math.MaxUint32, 0xAAAAAAAA, 1, 1 << 31} {
			for far := range 65536 {
				if x := Has(Map{base, more}, by(base, far)); x != told(more, far) {
					t.Fatalf("Has({%d, %x}, %d ahead) = %v", base, more, far, x)
				}
			}
		}
		for _, more := range mores() {
			for far := -70; far < 70; far++ {
				if x := Has(Map{base, more}, by(base, far)); x != told(more, (far+65536)%65536) {
					t.Errorf("Has({%d, %x}, %d ahead) = %v", base, more, far, x)
				}
			}
		}
	}
}

func TestMissing(t *testing.T) {
	m := Map{Base: 5, More: 3}
	for _, c := range []struct {
		from seq.Num
		n    int
		want []seq.Num
	}{
		{5, 5, []seq.Num{5, 8, 9}},
		{3, 3, []seq.Num{5}},
		{3, 2, nil},
		{6, 2, nil},
		{6, 3, []seq.Num{8}},
		{5, 1, []seq.Num{5}},
		{5, 0, nil},
		{5, -1, nil},
		{5, math.MinInt, nil},
		{65534, 9, []seq.Num{5}},
		{65534, 11, []seq.Num{5, 8}},
		// From the last that tells nothing on: half a round ahead of the base, then those before it.
		{32772, 4, []seq.Num{32772, 32773}},
	} {
		if l := Missing(m, c.from, c.n); !slices.Equal(l, c.want) {
			t.Errorf("Missing(%v, %d, %d) = %v", m, c.from, c.n, l)
		}
	}
}

func TestMissingAtAllCounts(t *testing.T) {
	counts := []int{math.MinInt, -1 << 32, -65536, -65, -64, -1, 0, 1, 2, 31, 32, 33, 63, 64, 65, 66, 128, 65535, 65536, 1<<32 + 1, math.MaxInt - 1, math.MaxInt}
	for _, base := range bases() {
		for _, more := range mores() {
			for _, from := range []int{-100, -65, -64, -63, -32, -1, 0, 1, 2, 31, 32, 33, 100, 32704, 32767, 32768, 32769} {
				for _, n := range counts {
					var want []seq.Num
					for i := range max(0, min(n, 64)) {
						if !told(more, (from+i+65536)%65536) {
							want = append(want, by(base, from+i))
						}
					}
					if l := Missing(Map{base, more}, by(base, from), n); !slices.Equal(l, want) {
						t.Fatalf("Missing({%d, %x}, %d ahead, %d) = %v, not %v", base, more, from, n, l, want)
					}
				}
			}
		}
	}
}

// P15.2

func TestMapTellsJustWhatHasCome(t *testing.T) {
	chance := rand.New(rand.NewPCG(3, 4))
	for _, base := range bases() {
		for _, more := range mores() {
			come := named(base, more)
			for range 3 {
				// Several times, and with those that came before, too, in any order.
				mixed := append(slices.Clone(come), come...)
				mixed = append(mixed, by(base, -1), by(base, -2), by(base, -32767), by(base, -chance.IntN(32767)-1))
				chance.Shuffle(len(mixed), func(i, j int) { mixed[i], mixed[j] = mixed[j], mixed[i] })
				m, e := Of(base, mixed)
				if m != (Map{base, more}) || e != api.OK {
					t.Fatalf("Of(%d, %v) = %v, %d", base, mixed, m, e)
				}
			}
			m, _ := Of(base, come)
			for far := range 40 {
				if a := by(base, far); Has(m, a) != slices.Contains(come, a) {
					t.Errorf("Has(%v, %d) = %v", m, a, Has(m, a))
				}
			}
			for far := 1; far <= 32767; far += 113 {
				if !Has(m, by(base, -far)) {
					t.Errorf("%v: the one %d before it hasn't come", m, far)
				}
			}
		}
	}
}

func TestMissingIsTheRest(t *testing.T) {
	for _, base := range bases() {
		for _, more := range mores() {
			m := Map{base, more}
			l := Missing(m, base, 33)
			if both := append(slices.Clone(l), named(base, more)...); len(both) != 33 {
				t.Errorf("%v: %d of 33", m, len(both))
			}
			for i, a := range l {
				if Has(m, a) || i > 0 && !seq.Before(l[i-1], a) {
					t.Errorf("%v: %v misses", m, l)
				}
			}
		}
	}
}

// P15.3

func TestNothingIsKeptOrChanged(t *testing.T) {
	for _, c := range [][]seq.Num{nil, {7, 6}, {6, 7, 4, 37, 37}, {5}, {7, 38}, {5, 38, 5}} {
		come := roomy(c)
		ahead := whole(come)
		m, e := Of(5, come)
		if !slices.Equal(whole(come), ahead) {
			t.Errorf("Of(5, %v) changed it: %v", c, whole(come))
		}
		spoil(come)
		if n, f := Of(5, slices.Clone(c)); m != n || e != f {
			t.Errorf("Of(5, %v) = %v, %d; then %v, %d", c, m, e, n, f)
		}
	}
}

func TestMissingIsNewMemory(t *testing.T) {
	m := Map{Base: 5, More: 0x0F0F0F0F}
	want := slices.Clone(Missing(m, 0, 64))
	a := Missing(m, 0, 64)
	b := Missing(m, 0, 64)
	spoil(a)
	if !slices.Equal(b, want) || !slices.Equal(Missing(m, 0, 64), want) {
		t.Error("a list that was answered is told by another one")
	}
}

// P1 of the document

func TestNoCallPanics(t *testing.T) {
	var all []seq.Num
	for a := range 65536 {
		all = append(all, seq.Num(a))
	}
	for _, base := range bases() {
		for _, come := range [][]seq.Num{nil, {}, {0}, {65535}, bases(), all} {
			m, _ := Of(base, come)
			for _, a := range bases() {
				Has(m, a)
				for _, n := range []int{math.MinInt, -1, 0, 64, 65, math.MaxInt} {
					Missing(m, a, n)
				}
			}
		}
	}
}
