package frame

import (
	"errors"
	"math"
	"math/rand/v2"
	"slices"
	"testing"

	"shuttle/ackmap"
	"shuttle/api"
	"shuttle/crc16"
	"shuttle/seq"
)

// some is n bits, other ones for each n and each seed.
func some(n int, seed uint64) []byte {
	chance := rand.New(rand.NewPCG(uint64(n), seed))
	l := make([]byte, n)
	for i := range l {
		l[i] = byte(chance.Uint32() & 1)
	}
	return l
}

// extremes are ints at which a sum or a product would come round.
func extremes() []int {
	return []int{math.MinInt, math.MinInt + 1, math.MinInt32, -1 << 32, 1 << 32, 1<<32 + 1, 1<<61 - 4, 1<<61 - 3, 1<<61 + 1, math.MaxInt - 4, math.MaxInt - 3, math.MaxInt}
}

// data is a frame of a message of n bytes with some body.
func data(n, v int, number seq.Num, seed uint64) Frame {
	return Frame{Kind: Data, Seq: number, Version: v, Len: n, Body: some(8*n+38, seed)}
}

// ack is a frame of a map.
func ack(base seq.Num, more uint32) Frame {
	return Frame{Kind: Ack, Map: ackmap.Map{Base: base, More: more}}
}

// frames are those of each length, each version, and numbers and maps at their ends and between.
func frames() []Frame {
	var l []Frame
	for n := range api.MaxLen + 1 {
		l = append(l, data(n, n%4, seq.Num(n*1021), 1))
	}
	for v := range 4 {
		for _, number := range []seq.Num{0, 1, 255, 256, 258, 32767, 32768, 65535} {
			l = append(l, data(0, v, number, 2), data(64, v, number, 2), data(5, v, number, 3))
		}
	}
	for _, n := range []int{0, 1, 64} {
		l = append(l, Frame{Kind: Data, Len: n, Body: make([]byte, 8*n+38)})
		l = append(l, Frame{Kind: Data, Version: 3, Seq: 65535, Len: n, Body: slices.Repeat([]byte{1}, 8*n+38)})
	}
	for _, base := range []seq.Num{0, 1, 255, 256, 258, 32767, 32768, 65535} {
		for _, more := range []uint32{0, 1, 3, 1 << 16, 1 << 31, 0x12345678, 0x7FFFFFFF, math.MaxUint32} {
			l = append(l, ack(base, more))
		}
	}
	return l
}

// same: are they alike? Nil and empty bodies are one.
func same(a, b Frame) bool {
	return a.Kind == b.Kind && a.Seq == b.Seq && a.Version == b.Version && a.Len == b.Len && a.Map == b.Map && slices.Equal(a.Body, b.Body)
}

// nothing: is it the zero value?
func nothing(f Frame) bool { return same(f, Frame{}) }

// plain are the bytes of a right frame in other words.
func plain(f Frame) []byte {
	if f.Kind == Ack {
		m := f.Map
		return crc16.Seal([]byte{2 << 4, byte(m.Base / 256), byte(m.Base), byte(m.More >> 24), byte(m.More >> 16), byte(m.More >> 8), byte(m.More)})
	}
	b := crc16.Seal([]byte{byte(1<<4 + 4*f.Version), byte(f.Len), byte(f.Seq / 256), byte(f.Seq)})
	for i := 0; i < len(f.Body); i += 8 {
		x := 0
		for j := range 8 {
			x *= 2
			if i+j < len(f.Body) {
				x += int(f.Body[i+j])
			}
		}
		b = append(b, byte(x))
	}
	return b
}

// judged is what Read must answer, by the document's list of errors.
func judged(b []byte) api.Errno {
	if len(b) == 0 {
		return api.ErrShort
	}
	head := map[byte]int{1: 6, 2: 9}[b[0]/16]
	if head == 0 {
		return api.ErrKind
	}
	if len(b) < head {
		return api.ErrShort
	}
	if sum := crc16.Sum(b[:head-2]); b[head-2] != byte(sum/256) || b[head-1] != byte(sum) {
		return api.ErrCheck
	}
	noughts, body := byte(15), 0
	if head == 6 {
		noughts, body = 3, int(b[1])+5
	}
	switch rest := len(b) - head; {
	case b[0]&noughts != 0:
		return api.ErrField
	case body > 69:
		return api.ErrLong
	case rest < body:
		return api.ErrShort
	case rest > body:
		return api.ErrTail
	case head == 6 && b[len(b)-1]&3 != 0:
		return api.ErrField
	}
	return api.OK
}

// seal puts the right sum into the head of what stands for a kind, in b itself.
func seal(b []byte) {
	if n := Head(int(b[0] >> 4)); n > 0 && len(b) >= n {
		copy(b, crc16.Seal(b[:n-2]))
	}
}

// roomy is l with spare room behind it that holds marks, so that a write into that room shows.
func roomy(l []byte) []byte {
	return append(slices.Clone(l), 99, 98, 97, 96, 95, 94, 93, 92)[:len(l)]
}

// whole is l and its spare room.
func whole(l []byte) []byte { return slices.Clone(l[:cap(l)]) }

// spoil writes over a list and its spare room.
func spoil(l []byte) {
	for all, i := l[:cap(l)], 0; i < len(all); i++ {
		all[i] ^= 0xFF
	}
}

// refused: Read answers this error and nothing beside it.
func refused(t *testing.T, b []byte, want api.Errno) {
	t.Helper()
	if f, e := Read(b); e != want || !nothing(f) {
		t.Errorf("Read(%x) = %v, %d, not %d", b, f, e, want)
	}
}

// P16.1

func TestBits(t *testing.T) {
	for n, want := range map[int]int{0: 38, 1: 46, 2: 54, 63: 542, 64: 550, 65: 0, 66: 0, -1: 0, -4: 0, -5: 0, 255: 0, 256: 0} {
		if x := Bits(n); x != want {
			t.Errorf("Bits(%d) = %d", n, x)
		}
	}
	for n := range api.MaxLen + 1 {
		if x := Bits(n); x != 8*n+38 {
			t.Errorf("Bits(%d) = %d", n, x)
		}
	}
	for _, n := range extremes() {
		if x := Bits(n); x != 0 {
			t.Errorf("Bits(%d) = %d", n, x)
		}
	}
}

func TestHead(t *testing.T) {
	for kind, want := range map[int]int{-2: 0, -1: 0, 0: 0, 1: 6, 2: 9, 3: 0, 4: 0, 15: 0, 16: 0, 17: 0, 18: 0} {
		if x := Head(kind); x != want {
			t.Errorf("Head(%d) = %d", kind, x)
		}
	}
	for _, kind := range extremes() {
		if x := Head(kind); x != 0 {
			t.Errorf("Head(%d) = %d", kind, x)
		}
	}
}

func TestWrite(t *testing.T) {
	none := Frame{Kind: Data, Body: make([]byte, 38)}
	if b, e := Write(none); e != api.OK || len(b) != 11 {
		t.Errorf("a data frame of no bytes has %d: %d", len(b), e)
	}
	for _, c := range []struct {
		f    Frame
		want []byte
	}{
		{none, []byte{0x10, 0, 0, 0}},
		{Frame{Kind: Data, Seq: 0x1234, Version: 2, Len: 64, Body: make([]byte, 550)}, []byte{0x18, 0x40, 0x12, 0x34}},
		{ack(0x1234, 0x56789ABC), []byte{0x20, 0x12, 0x34, 0x56, 0x78, 0x9A, 0xBC}},
	} {
		b, e := Write(c.f)
		if e != api.OK || !slices.Equal(b[:len(c.want)], c.want) || !crc16.Right(b[:len(c.want)+2]) {
			t.Errorf("Write(%v) = %x, %d", c.f, b, e)
		}
	}
	for _, f := range frames() {
		if b, e := Write(f); e != api.OK || !slices.Equal(b, plain(f)) {
			t.Errorf("Write(%v) = %x, %d", f, b, e)
		}
	}
}

func TestWriteEachBitOfABody(t *testing.T) {
	for _, n := range []int{0, 1, 64} {
		for i := range Bits(n) {
			f := Frame{Kind: Data, Len: n, Body: make([]byte, Bits(n))}
			f.Body[i] = 1
			if b, e := Write(f); e != api.OK || b[6+i/8] != 1<<(7-i%8) || !slices.Equal(b, plain(f)) {
				t.Errorf("bit %d of %d: %x, %d", i, n, b, e)
			}
		}
	}
}

func TestWriteRefuses(t *testing.T) {
	body := some(46, 4)
	odd := slices.Clone(body)
	odd[45] = 2
	for _, c := range []struct {
		f    Frame
		want api.Errno
	}{
		{Frame{}, api.ErrKind},
		{Frame{Kind: 3, Len: 1, Body: body}, api.ErrKind},
		{Frame{Kind: -1, Len: 1, Body: body}, api.ErrKind},
		{Frame{Kind: 17, Len: 1, Body: body}, api.ErrKind},
		{Frame{Kind: 18}, api.ErrKind},
		{Frame{Kind: 1<<32 + 1, Len: 1, Body: body}, api.ErrKind},
		{Frame{Kind: Data, Version: 4, Len: 1, Body: body}, api.ErrField},
		{Frame{Kind: Data, Version: -1, Len: 1, Body: body}, api.ErrField},
		{Frame{Kind: Data, Version: 1 << 32, Len: 1, Body: body}, api.ErrField},
		{Frame{Kind: Data, Len: 1, Body: odd}, api.ErrField},
		{Frame{Kind: Data, Len: 65, Body: make([]byte, 558)}, api.ErrLong},
		{Frame{Kind: Data, Len: 65}, api.ErrLong},
		{Frame{Kind: Data, Len: -1, Body: make([]byte, 30)}, api.ErrLong},
		{Frame{Kind: Data, Len: -1}, api.ErrLong},
		{Frame{Kind: Data, Len: 257, Body: body}, api.ErrLong},
		{Frame{Kind: Data, Len: 1<<32 + 1, Body: body}, api.ErrLong},
		{Frame{Kind: Data, Len: 1, Body: body[:45]}, api.ErrForm},
		{Frame{Kind: Data, Len: 1, Body: append(slices.Clone(body), 0)}, api.ErrForm},
		{Frame{Kind: Data, Len: 1, Body: append(slices.Clone(body), 0, 0)}, api.ErrForm},
		{Frame{Kind: Data, Len: 0, Body: nil}, api.ErrForm},
		{Frame{Kind: Data, Len: 0, Body: []byte{}}, api.ErrForm},
		{Frame{Kind: Data, Len: 0, Body: body}, api.ErrForm},
		{Frame{Kind: Data, Len: 2, Body: body}, api.ErrForm},
		{Frame{Kind: Data, Len: 64, Body: make([]byte, 549)}, api.ErrForm},
		{Frame{Kind: Data, Len: 64, Body: make([]byte, 551)}, api.ErrForm},
		// Which comes first where several would do.
		{Frame{Kind: 0, Version: 4, Len: 65, Body: odd}, api.ErrKind},
		{Frame{Kind: Data, Version: 4, Len: 65, Body: body}, api.ErrField},
		{Frame{Kind: Data, Version: 4, Len: 0, Body: body}, api.ErrField},
		{Frame{Kind: Data, Len: 65, Body: odd}, api.ErrField},
		{Frame{Kind: Data, Len: 0, Body: odd}, api.ErrField},
		{Frame{Kind: Data, Len: 65, Body: body}, api.ErrLong},
		{Frame{Kind: Data, Len: -1, Body: body}, api.ErrLong},
	} {
		if b, e := Write(c.f); e != c.want || len(b) != 0 {
			t.Errorf("Write(%v) = %x, %d, not %d", c.f, b, e, c.want)
		}
	}
}

func TestWriteAtExtremes(t *testing.T) {
	for _, x := range extremes() {
		for _, c := range []struct {
			f    Frame
			want api.Errno
		}{
			{Frame{Kind: x, Body: make([]byte, 38)}, api.ErrKind},
			{Frame{Kind: Data, Version: x, Body: make([]byte, 38)}, api.ErrField},
			{Frame{Kind: Data, Len: x, Body: make([]byte, 38)}, api.ErrLong},
			{Frame{Kind: Data, Len: x}, api.ErrLong},
		} {
			if b, e := Write(c.f); e != c.want || len(b) != 0 {
				t.Errorf("Write(%v) = %x, %d, not %d", c.f, b, e, c.want)
			}
		}
	}
}

func TestWriteEachByteThatIsNoBit(t *testing.T) {
	f := data(3, 1, 77, 5)
	for i := range f.Body {
		for _, x := range []byte{2, 3, 48, 49, 128, 254, 255} {
			g := f
			g.Body = slices.Clone(f.Body)
			g.Body[i] = x
			if b, e := Write(g); e != api.ErrField || len(b) != 0 {
				t.Errorf("%d at %d: %x, %d", x, i, b, e)
			}
		}
	}
}

func TestWriteDoesntLookAtOthersFields(t *testing.T) {
	f := Frame{Kind: Ack, Seq: 9, Version: -7, Len: 1000, Body: []byte{5, 255}, Map: ackmap.Map{Base: 3, More: 9}}
	if b, e := Write(f); e != api.OK || !slices.Equal(b, plain(ack(3, 9))) {
		t.Errorf("Write(%v) = %x, %d", f, b, e)
	}
	g := data(2, 1, 4, 6)
	want := plain(g)
	g.Map = ackmap.Map{Base: 65535, More: math.MaxUint32}
	if b, e := Write(g); e != api.OK || !slices.Equal(b, want) {
		t.Errorf("Write(%v) = %x, %d", g, b, e)
	}
}

func TestReadKinds(t *testing.T) {
	refused(t, nil, api.ErrShort)
	refused(t, []byte{}, api.ErrShort)
	for x := range 256 {
		want := api.ErrKind
		if x/16 == 1 || x/16 == 2 {
			want = api.ErrShort
		}
		refused(t, []byte{byte(x)}, want)
		// However many stand behind: there is no such kind.
		if want == api.ErrKind {
			for _, n := range []int{5, 8, 10, 74, 200} {
				refused(t, append([]byte{byte(x)}, make([]byte, n)...), want)
				refused(t, crc16.Seal(append([]byte{byte(x)}, make([]byte, n)...)), want)
			}
		}
	}
}

func TestReadOfEachLength(t *testing.T) {
	for _, f := range frames() {
		b := plain(f)
		for n := range len(b) {
			refused(t, b[:n], api.ErrShort)
		}
		for _, more := range []int{1, 2, 3, 8, 63, 64, 65, 100, 1000} {
			refused(t, append(slices.Clone(b), make([]byte, more)...), api.ErrTail)
			refused(t, append(slices.Clone(b), slices.Repeat([]byte{0xFF}, more)...), api.ErrTail)
		}
	}
}

func TestReadFarTooMany(t *testing.T) {
	for _, f := range []Frame{data(0, 0, 1, 7), data(64, 3, 65535, 7), ack(1, 2)} {
		refused(t, append(plain(f), make([]byte, 1<<24)...), api.ErrTail)
	}
}

func TestReadWithEachBitOfAHeadTurned(t *testing.T) {
	for _, f := range frames() {
		b := plain(f)
		for i := range 8 * Head(f.Kind) {
			b[i/8] ^= 0x80 >> (i % 8)
			want := api.ErrCheck
			if i < 4 {
				want = api.ErrKind
			}
			refused(t, b, want)
			b[i/8] ^= 0x80 >> (i % 8)
		}
	}
}

func TestReadWithBitsThatMustBeNought(t *testing.T) {
	for _, f := range []Frame{data(0, 0, 0, 8), data(64, 3, 65535, 8), data(9, 1, 300, 8), ack(0, 0), ack(65535, math.MaxUint32)} {
		right := plain(f)
		noughts := 3
		if f.Kind == Ack {
			noughts = 15
		}
		for set := 1; set <= noughts; set++ {
			b := slices.Clone(right)
			b[0] |= byte(set)
			refused(t, b, api.ErrCheck)
			seal(b)
			refused(t, b, api.ErrField)
			// It comes first of what stands behind it.
			refused(t, b[:Head(f.Kind)], api.ErrField)
			refused(t, append(slices.Clone(b), 0), api.ErrField)
			if f.Kind == Data {
				b[1] = 65
				seal(b)
				refused(t, b, api.ErrField)
			}
		}
	}
}

func TestReadOfEachLen(t *testing.T) {
	for n := range 256 {
		for _, rest := range []int{0, 5, n + 4, n + 5, n + 6, 69, 300} {
			b := append(crc16.Seal([]byte{0x14, byte(n), 1, 2}), make([]byte, rest)...)
			if n > api.MaxLen {
				refused(t, b, api.ErrLong)
			} else if rest < n+5 {
				refused(t, b, api.ErrShort)
			} else if rest > n+5 {
				refused(t, b, api.ErrTail)
			} else if f, e := Read(b); e != api.OK || !same(f, Frame{Kind: Data, Version: 1, Seq: 258, Len: n, Body: make([]byte, 8*n+38)}) {
				t.Errorf("Read(%x) = %v, %d", b, f, e)
			}
		}
	}
}

func TestReadWithBitsBehindTheBody(t *testing.T) {
	for _, f := range frames() {
		if f.Kind != Data {
			continue
		}
		b := plain(f)
		for set := byte(1); set <= 3; set++ {
			b[len(b)-1] |= set
			refused(t, b, api.ErrField)
			refused(t, b[:len(b)-1], api.ErrShort)
			refused(t, append(slices.Clone(b), 0), api.ErrTail)
			b[len(b)-1] &^= set
		}
	}
}

func TestReadTellsTheFirstError(t *testing.T) {
	for _, c := range []struct {
		b    []byte
		want api.Errno
	}{
		// No kind, and too few; no kind, and the sum isn't right.
		{[]byte{0x00}, api.ErrKind},
		{[]byte{0x30, 1, 2, 3, 4, 5, 6, 7, 8, 9, 10}, api.ErrKind},
		// Too few for a head, and no sum, a bit that isn't 0, a Len above all.
		{[]byte{0x13, 0xFF, 0, 0, 0}, api.ErrShort},
		{[]byte{0x2F, 1, 2, 3, 4, 5, 6, 7}, api.ErrShort},
		{crc16.Seal([]byte{0x20, 1, 2, 3, 4}), api.ErrShort},
		// The sum isn't right, and a bit isn't 0, a Len above all, too many, too few behind.
		{[]byte{0x13, 0xFF, 0, 0, 0, 0}, api.ErrCheck},
		{[]byte{0x10, 0xFF, 0, 0, 0, 0}, api.ErrCheck},
		{begun(0x10, 200), api.ErrCheck},
		{begun(0x20, 200), api.ErrCheck},
		{begun(0x2F, 9), api.ErrCheck},
		// A bit isn't 0, and a Len above all.
		{crc16.Seal([]byte{0x11, 0xFF, 0, 0}), api.ErrField},
		// A Len above all, and too few behind, and too many.
		{crc16.Seal([]byte{0x10, 0xFF, 0, 0}), api.ErrLong},
		{append(crc16.Seal([]byte{0x10, 65, 0, 0}), make([]byte, 1000)...), api.ErrLong},
		// Too many behind, and a bit behind the body isn't 0.
		{append(crc16.Seal([]byte{0x10, 0, 0, 0}), 0, 0, 0, 0, 3, 3), api.ErrTail},
		{append(crc16.Seal([]byte{0x20, 1, 2, 3, 4, 5, 6}), 1), api.ErrTail},
	} {
		refused(t, c.b, c.want)
	}
}

// begun is n bytes: a first one, and noughts.
func begun(first byte, n int) []byte {
	b := make([]byte, n)
	b[0] = first
	return b
}

func TestReadOfAllBytes(t *testing.T) {
	chance := rand.New(rand.NewPCG(9, 10))
	right := 0
	for round := range 300000 {
		b := make([]byte, chance.IntN(90))
		for i := range b {
			b[i] = byte(chance.Uint32())
		}
		if len(b) > 1 && round%8 != 0 {
			b[0] = b[0]&15 | byte(1+chance.IntN(2))<<4
			if round%2 == 0 {
				b[0] &^= 3 << chance.IntN(2)
			}
			if round%4 < 3 {
				b[1] = byte(len(b) - 11 + chance.IntN(3) - 1)
			}
			if round%3 > 0 {
				b[len(b)-1] &^= 3
			}
			seal(b)
		}
		f, e := Read(b)
		if e != judged(b) {
			t.Fatalf("Read(%x) = %v, %d, not %d", b, f, e, judged(b))
		}
		if e != api.OK {
			if !nothing(f) {
				t.Fatalf("Read(%x) = %v, %d", b, f, e)
			}
			continue
		}
		right++
		if again, e := Write(f); e != api.OK || !slices.Equal(again, b) {
			t.Fatalf("%x is read as %v, that is written as %x, %d", b, f, again, e)
		}
	}
	if right < 1000 {
		t.Errorf("only %d were right", right)
	}
}

func TestWhyIsWrapped(t *testing.T) {
	for _, c := range []struct {
		b    []byte
		came error
		text string
	}{
		{nil, told(api.ErrShort), "kind: error 2"},
		{[]byte{0x30}, errKind, "kind: no such kind"},
		{[]byte{0x10}, errShort, "head: it ends too soon"},
		{begun(0x10, 11), errCheck, "head: its sum isn't right"},
		{crc16.Seal([]byte{0x11, 0, 0, 0}), errNought, "head: a bit that must be 0 isn't"},
		{crc16.Seal([]byte{0x10, 65, 0, 0}), errLong, "head: more bytes than a message may have"},
		{crc16.Seal([]byte{0x10, 0, 0, 0}), told(api.ErrShort), "body: error 2"},
		{append(crc16.Seal([]byte{0x20, 1, 2, 3, 4, 5, 6}), 1), told(api.ErrTail), "end: error 3"},
		{append(crc16.Seal([]byte{0x10, 0, 0, 0}), 0, 0, 0, 0, 3), told(api.ErrField), "end: error 5"},
	} {
		_, err := read(c.b)
		var u *unread
		if !errors.As(err, &u) || !errors.Is(err, c.came) || err.Error() != c.text {
			t.Errorf("read(%x): %v", c.b, err)
		}
	}
	if number(nil) != api.OK {
		t.Error("no error has a number")
	}
}

// P16.2

func TestFramesComeBack(t *testing.T) {
	for _, f := range frames() {
		b, e := Write(f)
		if e != api.OK {
			t.Fatal(f, e)
		}
		if back, e := Read(b); e != api.OK || !same(back, f) {
			t.Errorf("%v comes back as %v, %d", f, back, e)
		}
	}
}

func TestWhatAKindDoesntHaveIsNothing(t *testing.T) {
	f := Frame{Kind: Ack, Seq: 9, Version: 2, Len: 3, Body: some(62, 1), Map: ackmap.Map{Base: 3, More: 9}}
	b, _ := Write(f)
	if back, e := Read(b); e != api.OK || !same(back, ack(3, 9)) {
		t.Errorf("%v comes back as %v, %d", f, back, e)
	}
	g := data(2, 1, 4, 6)
	g.Map = ackmap.Map{Base: 7, More: 1}
	b, _ = Write(g)
	g.Map = ackmap.Map{}
	if back, e := Read(b); e != api.OK || !same(back, g) {
		t.Errorf("%v comes back as %v, %d", g, back, e)
	}
}

func TestOtherBytesArentItsOwn(t *testing.T) {
	chance := rand.New(rand.NewPCG(11, 12))
	for _, f := range frames() {
		b := plain(f)
		for range 300 {
			c := slices.Clone(b)
			for range 1 + chance.IntN(3) {
				c[chance.IntN(len(c))] ^= 1 << chance.IntN(8)
			}
			if chance.IntN(2) == 0 {
				seal(c)
			}
			if back, e := Read(c); e == api.OK && same(back, f) != slices.Equal(c, b) {
				t.Fatalf("%v is read from %x, too", f, c)
			}
		}
	}
}

// P16.3

// burst turns the bits of a run in b itself: the run begins at a place, of each byte the highest bit first, and its highest bit says of the first. Twice is back.
func burst(b []byte, at int, run uint16) {
	for i := range 16 {
		if run>>(15-i)&1 == 1 {
			b[(at+i)/8] ^= 0x80 >> ((at + i) % 8)
		}
	}
}

func TestHeadsOfWhichARunIsTurned(t *testing.T) {
	for _, f := range []Frame{data(0, 2, 40000, 13), data(64, 1, 3, 13), ack(513, 0xA5000001)} {
		b := plain(f)
		last := 8*Head(f.Kind) - 1
		step := 1
		if f.Len > 0 {
			// The long one costs more, and shows no more: each seventeenth run is enough.
			step = 17
		}
		for at := range last + 1 {
			for rest := 0; rest < 1<<15; rest += step {
				run := 1<<15 | uint16(rest)
				// What would stand behind the head is left as it is.
				if beyond := at + 15 - last; beyond > 0 {
					run = run >> beyond << beyond
				}
				burst(b, at, run)
				if g, e := Read(b); e == api.OK || !nothing(g) {
					t.Fatalf("%v with %016b turned at %d: %v, %d", f, run, at, g, e)
				}
				burst(b, at, run)
			}
		}
		if g, e := Read(b); e != api.OK || !same(g, f) {
			t.Errorf("%v isn't as it was: %v, %d", f, g, e)
		}
	}
}

func TestShortRunsInAllFrames(t *testing.T) {
	for _, f := range frames() {
		b := plain(f)
		last := 8*Head(f.Kind) - 1
		for at := range last + 1 {
			// All bits of a run, and its two ends alone.
			for wide := 1; wide <= min(16, last-at+1); wide++ {
				for _, run := range []uint16{0xFFFF << (16 - wide), 1<<15 | 1<<(16-wide)} {
					burst(b, at, run)
					if g, e := Read(b); e == api.OK || !nothing(g) {
						t.Fatalf("%v with %016b turned at %d: %v, %d", f, run, at, g, e)
					}
					burst(b, at, run)
				}
			}
		}
	}
}

// P16.4

func TestWriteKeepsAndChangesNothing(t *testing.T) {
	odd := some(46, 14)
	odd[7] = 9
	for _, f := range []Frame{data(0, 0, 1, 14), data(1, 3, 2, 14), data(64, 2, 3, 14), {Kind: Data, Len: 1, Body: odd}, {Kind: Data, Len: 70, Body: some(5, 1)}, {Kind: Data, Len: 2, Body: some(5, 1)}, {Kind: Ack, Body: some(5, 1)}, {Kind: 9, Body: some(5, 1)}} {
		want, err := Write(f)
		g := f
		g.Body = roomy(f.Body)
		ahead := whole(g.Body)
		b, e := Write(g)
		if !slices.Equal(b, want) || e != err || !slices.Equal(whole(g.Body), ahead) {
			t.Errorf("Write(%v) = %x, %d; its body then: %v", f, b, e, whole(g.Body))
		}
		spoil(g.Body)
		if !slices.Equal(b, want) {
			t.Errorf("what was written of %v hangs on its body", f)
		}
		body := slices.Clone(f.Body)
		other, _ := Write(f)
		another, _ := Write(f)
		spoil(another)
		if !slices.Equal(other, want) || !slices.Equal(f.Body, body) {
			t.Errorf("an answer of %v shares memory with its body or another answer", f)
		}
		if again, e := Write(f); !slices.Equal(again, want) || e != err {
			t.Errorf("Write(%v) = %x, %d the second time", f, again, e)
		}
	}
}

func TestReadKeepsAndChangesNothing(t *testing.T) {
	for _, f := range []Frame{data(0, 0, 1, 15), data(1, 3, 2, 15), data(64, 2, 3, 15), ack(5, 6)} {
		right := plain(f)
		for _, c := range [][]byte{right, right[:len(right)-1], right[:3], append(slices.Clone(right), 7), {0x30}, nil} {
			want, err := Read(slices.Clone(c))
			b := roomy(c)
			ahead := whole(b)
			g, e := Read(b)
			if !same(g, want) || e != err || !slices.Equal(whole(b), ahead) {
				t.Errorf("Read(%x) = %v, %d; it is then %x", c, g, e, whole(b))
			}
			spoil(b)
			if !same(g, want) {
				t.Errorf("what was read of %x hangs on it", c)
			}
			kept := slices.Clone(c)
			other, _ := Read(kept)
			another, _ := Read(kept)
			spoil(another.Body)
			if !same(other, want) || !slices.Equal(kept, c) {
				t.Errorf("an answer of %x shares memory with it or another answer", c)
			}
			if again, e := Read(slices.Clone(c)); !same(again, want) || e != err {
				t.Errorf("Read(%x) = %v, %d the second time", c, again, e)
			}
		}
	}
}

// P1 of the document

func TestNoCallPanics(t *testing.T) {
	numbers := append(extremes(), -1, 0, 1, 2, 3, 4, 64, 65)
	for _, kind := range numbers {
		Head(kind)
		Bits(kind)
		for _, v := range numbers {
			for _, n := range numbers {
				for _, body := range [][]byte{nil, {}, {2}, make([]byte, 38), make([]byte, 550)} {
					Write(Frame{Kind: kind, Version: v, Len: n, Body: body})
				}
			}
		}
	}
	for x := range 256 {
		for n := range 80 {
			b := slices.Repeat([]byte{byte(x)}, n)
			Read(b)
			if n > 0 {
				seal(b)
				Read(b)
			}
		}
	}
}
