package bitio

import (
	"math"
	"math/rand/v2"
	"slices"
	"testing"

	"shuttle/api"
)

// number is one, and in how many bits it stands.
type number struct{ n, width int }

// written is a Writer to which numbers were put, all of which fit.
func written(t *testing.T, l ...number) *Writer {
	t.Helper()
	w := &Writer{}
	for _, x := range l {
		if e := w.Put(x.n, x.width); e != api.OK {
			t.Fatalf("Put(%d, %d) = %d", x.n, x.width, e)
		}
	}
	return w
}

// wrongWidths are those that neither Put nor Take has.
func wrongWidths() []int { return []int{0, -1, -32, 33, 64, 65, math.MinInt, math.MaxInt} }

// P2.1: the Writer

func TestPut(t *testing.T) {
	for _, c := range []struct {
		put   []number
		bytes []byte
		bits  int
	}{
		{nil, nil, 0},
		{[]number{{5, 3}, {1, 2}}, []byte{0xA8}, 5},
		{[]number{{0, 1}}, []byte{0x00}, 1},
		{[]number{{1, 1}}, []byte{0x80}, 1},
		{[]number{{0x7F, 7}}, []byte{0xFE}, 7},
		{[]number{{0xC3, 8}}, []byte{0xC3}, 8},
		{[]number{{0x101, 9}}, []byte{0x80, 0x80}, 9},
		{[]number{{1, 3}, {0x12345678, 32}}, []byte{0x22, 0x46, 0x8A, 0xCF, 0x00}, 35},
		{[]number{{1<<32 - 1, 32}}, []byte{0xFF, 0xFF, 0xFF, 0xFF}, 32},
		{[]number{{0, 32}}, []byte{0, 0, 0, 0}, 32},
		{[]number{{1, 32}, {1, 1}}, []byte{0, 0, 0, 1, 0x80}, 33},
	} {
		w := written(t, c.put...)
		if got := w.Bytes(); !slices.Equal(got, c.bytes) || w.Len() != c.bits {
			t.Errorf("of %v: %x, %d bits, want %x, %d", c.put, got, w.Len(), c.bytes, c.bits)
		}
	}
}

// refused checks that a Put answers an error and puts nothing.
func refused(t *testing.T, n, width int, want api.Errno) {
	t.Helper()
	w := written(t, number{5, 3})
	if e := w.Put(n, width); e != want {
		t.Errorf("Put(%d, %d) = %d, want %d", n, width, e, want)
	}
	if w.Len() != 3 || !slices.Equal(w.Bytes(), []byte{0xA0}) {
		t.Errorf("Put(%d, %d) put something: %x, %d bits", n, width, w.Bytes(), w.Len())
	}
	if e := w.Put(1, 2); e != api.OK || !slices.Equal(w.Bytes(), []byte{0xA8}) {
		t.Errorf("behind Put(%d, %d): %d, %x", n, width, e, w.Bytes())
	}
}

func TestPutOfWrongWidth(t *testing.T) {
	for _, width := range wrongWidths() {
		for _, n := range []int{0, 1, -1, math.MaxInt, math.MinInt} {
			refused(t, n, width, api.ErrArg)
		}
	}
}

func TestPutOfWhatDoesNotFit(t *testing.T) {
	for width := 1; width <= 32; width++ {
		for _, n := range []int{1 << width, 1<<width + 1, -1, -1 << width, math.MaxInt, math.MinInt, 1 << 62} {
			refused(t, n, width, api.ErrField)
		}
	}
}

func TestPutOfTheGreatest(t *testing.T) {
	for width := 1; width <= 32; width++ {
		w := written(t, number{1<<width - 1, width})
		ones := 0
		for _, x := range w.Bytes() {
			for ; x != 0; x <<= 1 {
				ones += int(x >> 7)
			}
		}
		if ones != width || w.Len() != width {
			t.Errorf("of width %d: %x, %d bits", width, w.Bytes(), w.Len())
		}
	}
}

func TestNilWriter(t *testing.T) {
	var w *Writer
	for _, x := range []number{{0, 1}, {0, 0}, {2, 1}, {-1, 33}} {
		if e := w.Put(x.n, x.width); e != api.ErrArg {
			t.Errorf("Put(%d, %d) = %d", x.n, x.width, e)
		}
	}
	if b, n := w.Bytes(), w.Len(); len(b) != 0 || n != 0 {
		t.Error(b, n)
	}
}

// P2.1: the Reader

func TestTake(t *testing.T) {
	for _, c := range []struct {
		b      []byte
		widths []int
		want   []int
		left   int
	}{
		{[]byte{0xA8}, []int{3, 2}, []int{5, 1}, 3},
		{[]byte{0xA8}, []int{8}, []int{0xA8}, 0},
		{[]byte{0xA8}, []int{1, 1, 1, 1, 1, 1, 1, 1}, []int{1, 0, 1, 0, 1, 0, 0, 0}, 0},
		{[]byte{0x80, 0x80}, []int{9, 7}, []int{0x101, 0}, 0},
		{[]byte{0xFF, 0xFF, 0xFF, 0xFF}, []int{32}, []int{1<<32 - 1}, 0},
		{[]byte{0x22, 0x46, 0x8A, 0xCF, 0x00}, []int{3, 32}, []int{1, 0x12345678}, 5},
	} {
		r := Of(c.b)
		if r.Left() != 8*len(c.b) {
			t.Errorf("of %x: Left() = %d", c.b, r.Left())
		}
		for i, width := range c.widths {
			if n, e := r.Take(width); n != c.want[i] || e != api.OK {
				t.Errorf("of %x: the %d-th, Take(%d) = %d, %d, want %d", c.b, i, width, n, e, c.want[i])
			}
		}
		if r.Left() != c.left {
			t.Errorf("of %x: %d are left, want %d", c.b, r.Left(), c.left)
		}
	}
}

func TestTakeOfWrongWidth(t *testing.T) {
	for _, b := range [][]byte{nil, {0x96}, {1, 2, 3, 4, 5}} {
		for _, width := range wrongWidths() {
			r := Of(b)
			if n, e := r.Take(width); n != 0 || e != api.ErrArg || r.Left() != 8*len(b) {
				t.Errorf("of %x: Take(%d) = %d, %d, and %d are left", b, width, n, e, r.Left())
			}
		}
	}
}

func TestTakeOfTooFew(t *testing.T) {
	for have := 0; have < 32; have++ {
		for width := have + 1; width <= 32; width++ {
			r := Of([]byte{0xFF, 0xFF, 0xFF, 0xFF})
			r.Take(32 - have)
			if n, e := r.Take(width); n != 0 || e != api.ErrShort || r.Left() != have {
				t.Fatalf("Take(%d) of %d bits = %d, %d, and %d are left", width, have, n, e, r.Left())
			}
			if have == 0 {
				continue
			}
			if n, e := r.Take(have); n != 1<<have-1 || e != api.OK {
				t.Fatalf("behind that, Take(%d) = %d, %d", have, n, e)
			}
		}
	}
}

func TestPad(t *testing.T) {
	for left := range 8 {
		r := Of([]byte{0xFF << left})
		r.Take(8 - left)
		if e := r.Pad(); e != api.OK || r.Left() != 0 {
			t.Errorf("of %d noughts: %d, and %d are left", left, e, r.Left())
		}
		if e := r.Pad(); e != api.OK {
			t.Errorf("of nothing: %d", e)
		}
	}
	if e := Of(nil).Pad(); e != api.OK {
		t.Errorf("of no bytes: %d", e)
	}
}

func TestPadOfTooMany(t *testing.T) {
	for _, b := range [][]byte{{0}, {0xFF}, {0, 0}, {0, 1}, {1, 0, 0, 0, 0}} {
		r := Of(b)
		if e := r.Pad(); e != api.ErrTail || r.Left() != 8*len(b) {
			t.Errorf("of %x: %d, and %d are left", b, e, r.Left())
		}
	}
	r := Of([]byte{0, 0})
	r.Take(8)
	if e := r.Pad(); e != api.ErrTail || r.Left() != 8 {
		t.Errorf("of eight: %d, and %d are left", e, r.Left())
	}
	r.Take(1)
	if e := r.Pad(); e != api.OK || r.Left() != 0 {
		t.Errorf("of seven: %d, and %d are left", e, r.Left())
	}
}

func TestPadOfOtherThanNoughts(t *testing.T) {
	for left := 1; left < 8; left++ {
		for place := range left {
			r := Of([]byte{1 << place})
			r.Take(8 - left)
			if e := r.Pad(); e != api.ErrField || r.Left() != left {
				t.Errorf("of %d bits with a 1: %d, and %d are left", left, e, r.Left())
			}
			if n, e := r.Take(left); n != 1<<place || e != api.OK {
				t.Errorf("behind that, Take(%d) = %d, %d", left, n, e)
			}
		}
	}
}

func TestNilReader(t *testing.T) {
	var r *Reader
	for _, width := range append(wrongWidths(), 1, 8, 32) {
		if n, e := r.Take(width); n != 0 || e != api.ErrArg {
			t.Errorf("Take(%d) = %d, %d", width, n, e)
		}
	}
	if e := r.Pad(); e != api.ErrArg || r.Left() != 0 {
		t.Error(e, r.Left())
	}
}

func TestReaderOfNothing(t *testing.T) {
	for _, r := range []*Reader{Of(nil), Of([]byte{}), {}} {
		if n, e := r.Take(1); n != 0 || e != api.ErrShort || r.Left() != 0 {
			t.Error(n, e, r.Left())
		}
	}
}

// P2.2

func TestWhatIsPutIsTaken(t *testing.T) {
	chance := rand.New(rand.NewPCG(2, 2))
	for range 300 {
		var l []number
		bits := 0
		for range chance.IntN(40) {
			width := 1 + chance.IntN(32)
			l = append(l, number{chance.IntN(1 << width), width})
			bits += width
		}
		w := written(t, l...)
		b := w.Bytes()
		if w.Len() != bits || len(b) != (bits+7)/8 {
			t.Fatalf("of %v: %d bits, %d bytes", l, w.Len(), len(b))
		}
		r := Of(b)
		for _, x := range l {
			if n, e := r.Take(x.width); n != x.n || e != api.OK {
				t.Fatalf("of %v: Take(%d) = %d, %d, want %d", l, x.width, n, e, x.n)
			}
		}
		if r.Left() != 8*len(b)-bits || r.Pad() != api.OK || r.Left() != 0 {
			t.Fatalf("of %v: %d are left", l, r.Left())
		}
	}
}

// P2.3

func TestReaderDoesNotKeepItsBytes(t *testing.T) {
	b := append(make([]byte, 0, 8), 0x12, 0x34)
	r := Of(b)
	b[0], b[1] = 0xFF, 0xFF
	if n, e := r.Take(16); n != 0x1234 || e != api.OK {
		t.Error(n, e)
	}
}

func TestReaderDoesNotChangeItsBytes(t *testing.T) {
	b := []byte{0x12, 0x34, 0x00, 0x77, 0x78}
	r := Of(b[:3])
	r.Take(16)
	r.Take(9)
	r.Take(1)
	r.Pad()
	if !slices.Equal(b, []byte{0x12, 0x34, 0x00, 0x77, 0x78}) {
		t.Errorf("%x", b)
	}
}

func TestWrittenBytesAreNewMemory(t *testing.T) {
	w := written(t, number{0x1234, 16}, number{1, 1})
	first := w.Bytes()
	for i := range first {
		first[i] = 0xFF
	}
	second := w.Bytes()
	if !slices.Equal(second, []byte{0x12, 0x34, 0x80}) {
		t.Errorf("a later answer changes with an earlier one: %x", second)
	}
	w.Put(0x7F, 7)
	if !slices.Equal(second, []byte{0x12, 0x34, 0x80}) {
		t.Errorf("an answer changes with a later Put: %x", second)
	}
	if third := w.Bytes(); !slices.Equal(third, []byte{0x12, 0x34, 0xFF}) {
		t.Errorf("%x", third)
	}
}

func TestWritersAndReadersAreApart(t *testing.T) {
	v, w := &Writer{}, &Writer{}
	v.Put(1, 1)
	if w.Len() != 0 || v.Len() != 1 {
		t.Error(v.Len(), w.Len())
	}
	b := []byte{0xF0}
	q, r := Of(b), Of(b)
	q.Take(4)
	if r.Left() != 8 || q.Left() != 4 {
		t.Error(q.Left(), r.Left())
	}
}
