package bits

import (
	"math"
	"slices"
	"testing"

	"shuttle/api"
)

// roomy is l with spare room behind it that holds marks, so that a write into that room shows.
func roomy[T byte | int](l ...T) []T {
	return append(slices.Clone(l), 99, 98, 97, 96, 95, 94, 93, 92)[:len(l)]
}

// whole is l and its spare room.
func whole[T any](l []T) []T { return slices.Clone(l[:cap(l)]) }

// P1.1

func TestOf(t *testing.T) {
	for _, c := range []struct{ b, want []byte }{
		{nil, nil},
		{[]byte{}, nil},
		{[]byte{0xA0}, []byte{1, 0, 1, 0, 0, 0, 0, 0}},
		{[]byte{0x00}, []byte{0, 0, 0, 0, 0, 0, 0, 0}},
		{[]byte{0xFF}, []byte{1, 1, 1, 1, 1, 1, 1, 1}},
		{[]byte{0x01, 0x80}, []byte{0, 0, 0, 0, 0, 0, 0, 1, 1, 0, 0, 0, 0, 0, 0, 0}},
	} {
		if got := Of(c.b); !slices.Equal(got, c.want) {
			t.Errorf("Of(%x) = %v, want %v", c.b, got, c.want)
		}
	}
}

func TestBytes(t *testing.T) {
	for _, c := range []struct{ l, want []byte }{
		{nil, nil},
		{[]byte{}, nil},
		{[]byte{0}, []byte{0x00}},
		{[]byte{1}, []byte{0x80}},
		{[]byte{0, 0, 0, 0, 0, 0, 1}, []byte{0x02}},
		{[]byte{1, 1, 1, 1, 1, 1, 1}, []byte{0xFE}},
		{[]byte{0, 0, 0, 0, 0, 0, 0, 1}, []byte{0x01}},
		{[]byte{1, 0, 1, 0, 0, 0, 0, 0}, []byte{0xA0}},
		{[]byte{1, 0, 1, 0, 0, 0, 0, 0, 0}, []byte{0xA0, 0x00}},
		{[]byte{1, 0, 1, 0, 0, 0, 0, 0, 0, 1, 1}, []byte{0xA0, 0x60}},
		{[]byte{0, 0, 0, 0, 0, 0, 0, 1, 1, 1, 1, 1, 1, 1, 1, 1}, []byte{0x01, 0xFF}},
	} {
		if got, e := Bytes(c.l); !slices.Equal(got, c.want) || e != api.OK {
			t.Errorf("Bytes(%v) = %x, %d, want %x", c.l, got, e, c.want)
		}
	}
}

func TestBytesOfNoBits(t *testing.T) {
	for _, l := range [][]byte{{2}, {255}, {0, 1, 2}, {1, 1, 1, 1, 1, 1, 1, 1, 3}, {128, 0, 0, 0, 0, 0, 0, 0, 1}} {
		if got, e := Bytes(l); len(got) != 0 || e != api.ErrField {
			t.Errorf("Bytes(%v) = %x, %d, want nothing and ErrField", l, got, e)
		}
	}
}

func TestRight(t *testing.T) {
	for _, l := range [][]byte{nil, {}, {0}, {1}, {0, 1, 1, 0}} {
		if !Right(l) {
			t.Errorf("Right(%v) = false", l)
		}
	}
	for x := 2; x < 256; x++ {
		for _, l := range [][]byte{{byte(x)}, {byte(x), 0}, {0, byte(x), 1}, {1, 0, byte(x)}} {
			if Right(l) {
				t.Errorf("Right(%v) = true", l)
			}
		}
	}
}

func TestWeight(t *testing.T) {
	for _, c := range []struct {
		l    []byte
		want int
	}{
		{nil, 0},
		{[]byte{}, 0},
		{[]byte{0, 0}, 0},
		{[]byte{1}, 1},
		{[]byte{1, 0, 1, 1}, 3},
		{[]byte{2, 0, 255, 128, 1}, 4},
	} {
		if got := Weight(c.l); got != c.want {
			t.Errorf("Weight(%v) = %d, want %d", c.l, got, c.want)
		}
	}
}

func TestApart(t *testing.T) {
	for _, c := range []struct {
		a, b []byte
		want int
		ok   bool
	}{
		{nil, nil, 0, true},
		{nil, []byte{}, 0, true},
		{[]byte{0}, []byte{0}, 0, true},
		{[]byte{0, 1, 0, 1}, []byte{1, 1, 0, 0}, 2, true},
		{[]byte{0, 0, 0}, []byte{1, 1, 1}, 3, true},
		{[]byte{2, 3}, []byte{2, 1}, 1, true},
		{[]byte{0}, nil, 0, false},
		{nil, []byte{1}, 0, false},
		{[]byte{0, 1}, []byte{1, 0, 1}, 0, false},
		{[]byte{1, 1, 1}, []byte{0, 0}, 0, false},
	} {
		if got, ok := Apart(c.a, c.b); got != c.want || ok != c.ok {
			t.Errorf("Apart(%v, %v) = %d, %v, want %d, %v", c.a, c.b, got, ok, c.want, c.ok)
		}
	}
}

func TestTurn(t *testing.T) {
	for _, c := range []struct {
		l    []byte
		at   []int
		want []byte
	}{
		{nil, nil, nil},
		{nil, []int{0, 1, -1}, nil},
		{[]byte{0, 1}, nil, []byte{0, 1}},
		{[]byte{0, 1, 0}, []int{0}, []byte{1, 1, 0}},
		{[]byte{0, 1, 0}, []int{2, 1}, []byte{0, 0, 1}},
		{[]byte{0, 1, 0}, []int{1, 1}, []byte{0, 1, 0}},
		{[]byte{0, 1, 0}, []int{1, 0, 1, 1}, []byte{1, 0, 0}},
		{[]byte{0, 1, 0}, []int{2, 0, 2, 2, 2}, []byte{1, 1, 0}},
		{[]byte{0, 1, 0}, []int{3, -1, -3, 4, math.MaxInt, math.MinInt}, []byte{0, 1, 0}},
		{[]byte{0, 1, 0}, []int{3, 2, -1, 3}, []byte{0, 1, 1}},
		{[]byte{2, 255}, []int{0, 1}, []byte{3, 254}},
	} {
		if got := Turn(c.l, c.at); !slices.Equal(got, c.want) {
			t.Errorf("Turn(%v, %v) = %v, want %v", c.l, c.at, got, c.want)
		}
	}
}

// P1.2

func TestBytesComeBack(t *testing.T) {
	all := make([]byte, 0, 256)
	for x := range 256 {
		one := []byte{byte(x)}
		if got, e := Bytes(Of(one)); !slices.Equal(got, one) || e != api.OK {
			t.Errorf("of %x: %x, %d", one, got, e)
		}
		all = append(all, byte(x))
		if got, e := Bytes(Of(all)); !slices.Equal(got, all) || e != api.OK {
			t.Errorf("of %x: %x, %d", all, got, e)
		}
	}
}

func TestBitsComeBack(t *testing.T) {
	for n := range 12 {
		for x := range 1 << n {
			l := make([]byte, n)
			for i := range l {
				l[i] = byte(x >> i & 1)
			}
			b, e := Bytes(l)
			back := Of(b)
			if e != api.OK || len(b) != (n+7)/8 || !slices.Equal(back[:n], l) || Weight(back[n:]) != 0 {
				t.Fatalf("of %v: %x, %d, %v", l, b, e, back)
			}
		}
	}
}

// P1.3

func TestNothingHandedInChanges(t *testing.T) {
	l, m, b, at := roomy[byte](1, 0, 1, 1, 0), roomy[byte](0, 0, 1, 0, 2), roomy[byte](0xA5, 0x3C), roomy(0, 1, 1, 4, 9)
	lWas, mWas, bWas, atWas := whole(l), whole(m), whole(b), whole(at)
	Of(b)
	Bytes(l)
	Bytes(m)
	Right(l)
	Weight(m)
	Apart(l, m)
	Turn(l, at)
	if !slices.Equal(whole(l), lWas) || !slices.Equal(whole(m), mWas) || !slices.Equal(whole(b), bWas) || !slices.Equal(whole(at), atWas) {
		t.Error(whole(l), whole(m), whole(b), whole(at))
	}
}

func TestAnswersAreNewMemory(t *testing.T) {
	ask := map[string]func(l []byte) []byte{
		"Of":             Of,
		"Bytes":          func(l []byte) []byte { b, _ := Bytes(l); return b },
		"Turn":           func(l []byte) []byte { return Turn(l, []int{1}) },
		"Turn of no one": func(l []byte) []byte { return Turn(l, nil) },
	}
	for name, f := range ask {
		l := roomy[byte](1, 0, 0, 1, 1, 0, 1, 0)
		was := whole(l)
		first := f(l)
		kept := slices.Clone(first)
		for i := range first {
			first[i] ^= 0xFF
		}
		for room, i := first[len(first):cap(first)], 0; i < len(room); i++ {
			room[i] = 0xEE
		}
		if !slices.Equal(whole(l), was) {
			t.Errorf("%s: what was handed in changes with the answer", name)
		}
		if again := f(l); !slices.Equal(again, kept) {
			t.Errorf("%s: an answer changes with an earlier one: %v, want %v", name, again, kept)
		}
		answer := f(l)
		for i := range l {
			l[i] ^= 1
		}
		if !slices.Equal(answer, kept) {
			t.Errorf("%s: the answer changes with what was handed in", name)
		}
	}
}

// P1 of the document

func TestNoCallPanics(t *testing.T) {
	long := make([]byte, api.MaxBits+1)
	for _, l := range [][]byte{nil, {}, {0}, {7, 255}, long} {
		Of(l)
		Bytes(l)
		Right(l)
		Weight(l)
		for _, m := range [][]byte{nil, {}, {1}, {9, 9, 9}, long} {
			Apart(l, m)
		}
		for _, at := range [][]int{nil, {}, {0}, {-1}, {math.MinInt, math.MaxInt, len(l), len(l) - 1}} {
			Turn(l, at)
		}
	}
}
