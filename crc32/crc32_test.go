package crc32

import (
	library "hash/crc32"
	"math/bits"
	"math/rand/v2"
	"slices"
	"testing"

	"shuttle/api"
	"shuttle/gf2"
)

// some is n bytes, other ones for each n and each seed.
func some(n int, seed uint64) []byte {
	chance := rand.New(rand.NewPCG(uint64(n), seed))
	b := make([]byte, n)
	for i := range b {
		b[i] = byte(chance.Uint32())
	}
	return b
}

// samples are messages of all lengths up to one above the limit, of noughts, of ones and of others, and all of one byte.
func samples() [][]byte {
	l := [][]byte{nil, {}, []byte("123456789"), some(1000, 1)}
	for n := range api.MaxLen + 2 {
		l = append(l, make([]byte, n), slices.Repeat([]byte{0xFF}, n), some(n, 2))
	}
	for x := range 256 {
		l = append(l, []byte{byte(x)})
	}
	return l
}

// turned is b with the bits of a run turned: the run begins at a place, of each byte the lowest bit first, and its bit i says of the i-th.
func turned(b []byte, at int, run uint32) []byte {
	b = slices.Clone(b)
	for i := range 32 {
		if run>>i&1 == 1 {
			b[(at+i)/8] ^= 1 << ((at + i) % 8)
		}
	}
	return b
}

// byDefinition is the sum in the chapter's own words, coefficient by coefficient.
func byDefinition(b []byte) uint32 {
	var l []byte
	for _, x := range b {
		for i := range 8 {
			l = append(l, x>>i&1)
		}
	}
	l = append(l, make([]byte, 32)...)
	for i := range 32 {
		l[i] ^= 1
	}
	var by gf2.Poly
	for _, power := range []int{32, 26, 23, 22, 16, 12, 11, 10, 8, 7, 5, 4, 2, 1, 0} {
		by |= 1 << power
	}
	rest, _ := gf2.Rest(l, by)
	return ^bits.Reverse32(uint32(rest))
}

// roomy is b with spare room behind it that holds marks, so that a write into that room shows.
func roomy(b []byte) []byte {
	return append(slices.Clone(b), 99, 98, 97, 96, 95, 94, 93, 92)[:len(b)]
}

// whole is b and its spare room.
func whole(b []byte) []byte { return slices.Clone(b[:cap(b)]) }

// P4.1

func TestSum(t *testing.T) {
	for _, c := range []struct {
		b    string
		want uint32
	}{
		{"123456789", 0xCBF43926},
		{"", 0},
		{"\x00", 0xD202EF8D},
		{"\xFF", 0xFF000000},
		{"a", 0xE8B7BE43},
		{"abc", 0x352441C2},
		{"\x00\x00\x00\x00", 0x2144DF1C},
		{"\xFF\xFF\xFF\xFF", 0xFFFFFFFF},
	} {
		if got := Sum([]byte(c.b)); got != c.want {
			t.Errorf("Sum(%q) = %08X, want %08X", c.b, got, c.want)
		}
	}
	if Sum(nil) != 0 {
		t.Error("Sum of nil isn't 0")
	}
}

func TestSumIsThatOfTheDefinition(t *testing.T) {
	for _, b := range samples() {
		if got, want := Sum(b), byDefinition(b); got != want || got != library.ChecksumIEEE(b) {
			t.Errorf("Sum(%x) = %08X, want %08X", b, got, want)
		}
	}
}

func TestClose(t *testing.T) {
	for _, c := range []struct{ b, want string }{
		{"", "\x00\x00\x00\x00"},
		{"\x00", "\x00\x8D\xEF\x02\xD2"},
		{"a", "a\x43\xBE\xB7\xE8"},
		{"123456789", "123456789\x26\x39\xF4\xCB"},
	} {
		if got := Close([]byte(c.b)); string(got) != c.want {
			t.Errorf("Close(%q) = %q, want %q", c.b, got, c.want)
		}
	}
	for _, b := range samples() {
		sum := byDefinition(b)
		want := append(slices.Clone(b), byte(sum), byte(sum>>8), byte(sum>>16), byte(sum>>24))
		if got := Close(b); !slices.Equal(got, want) {
			t.Errorf("Close(%x) = %x, want %x", b, got, want)
		}
	}
}

func TestOpen(t *testing.T) {
	for _, c := range []struct {
		b, want string
		ok      bool
	}{
		{"\x00\x00\x00\x00", "", true},
		{"\x00\x8D\xEF\x02\xD2", "\x00", true},
		{"a\x43\xBE\xB7\xE8", "a", true},
		{"123456789\x26\x39\xF4\xCB", "123456789", true},
		{"\x00\x00\x00\x01", "", false},
		{"\x01\x00\x00\x00", "", false},
		{"\xFF\xFF\xFF\xFF", "", false},
		{"\x00\x00\x00\x00\x00", "", false},
		{"a\xE8\xB7\xBE\x43", "", false},
		{"b\x43\xBE\xB7\xE8", "", false},
		{"123456789", "", false},
		{"123456789\xCB\xF4\x39\x26", "", false},
		{"123456789\x26\x39\xF4", "", false},
		{"123456789\x26\x39\xF4\xCB\x00", "", false},
		{"\x26\x39\xF4\xCB123456789", "", false},
	} {
		if got, ok := Open([]byte(c.b)); string(got) != c.want || ok != c.ok {
			t.Errorf("Open(%q) = %q, %v, want %q, %v", c.b, got, ok, c.want, c.ok)
		}
	}
}

func TestOpenOfFewerBytesThanASum(t *testing.T) {
	if got, ok := Open(nil); len(got) != 0 || ok {
		t.Errorf("Open(nil) = %x, %v", got, ok)
	}
	for n := range size {
		for _, b := range [][]byte{make([]byte, n), slices.Repeat([]byte{0xFF}, n), some(n, 3), Close(nil)[:n]} {
			if got, ok := Open(b); len(got) != 0 || ok {
				t.Errorf("Open(%x) = %x, %v", b, got, ok)
			}
		}
	}
}

func TestOpenTakesOneSumAlone(t *testing.T) {
	for _, b := range [][]byte{nil, {0}, []byte("123456789"), some(api.MaxLen, 4)} {
		for i := range size {
			closed := Close(b)
			last := &closed[len(b)+i]
			right := *last
			for x := range 256 {
				*last = byte(x)
				got, ok := Open(closed)
				if ok != (byte(x) == right) || ok && !slices.Equal(got, b) || !ok && len(got) != 0 {
					t.Fatalf("Open(%x) = %x, %v", closed, got, ok)
				}
			}
		}
	}
}

// P4.2

func TestWhatIsClosedIsOpened(t *testing.T) {
	for _, b := range samples() {
		if got, ok := Open(Close(b)); !ok || !slices.Equal(got, b) {
			t.Errorf("of %x: %x, %v", b, got, ok)
		}
	}
}

func TestOneBitTurned(t *testing.T) {
	for _, b := range samples() {
		closed := Close(b)
		for at := range 8 * len(closed) {
			if got, ok := Open(turned(closed, at, 1)); ok || len(got) != 0 {
				t.Fatalf("of %x with bit %d turned: %x, %v", b, at, got, ok)
			}
		}
	}
}

// runs are patterns of up to 32 bits side by side, the first of them turned.
func runs() []uint32 {
	l := []uint32{1, 3, 1<<31 | 1, 1<<32 - 1, 0x55555555, divisor | 1, library.IEEE | 1, library.Castagnoli | 1}
	for i := range 32 {
		l = append(l, 1<<i|1, 1<<(i+1)-1)
	}
	chance := rand.New(rand.NewPCG(4, 2))
	for range 400 {
		l = append(l, chance.Uint32()|1, chance.Uint32()>>chance.IntN(32)|1)
	}
	return l
}

func TestRunsTurned(t *testing.T) {
	all := runs()
	for n := range api.MaxLen + 1 {
		closed := Close(some(n, 5))
		// A run's first bit is turned, so it may stand anywhere it has room: over the beginning, the seam and the sum's own bytes.
		for at := range 8 * len(closed) {
			for i := at % 7; i < len(all); i += 7 {
				if at+bits.Len32(all[i]) > 8*len(closed) {
					continue
				}
				if got, ok := Open(turned(closed, at, all[i])); ok || len(got) != 0 {
					t.Fatalf("of %d bytes with the run %08X at %d turned: %x, %v", n, all[i], at, got, ok)
				}
			}
		}
	}
}

// fault is by how much the sum that stands behind is wrong.
func fault(closed []byte) uint32 {
	n := len(closed) - size
	tail := closed[n:]
	return Sum(closed[:n]) ^ (uint32(tail[0]) | uint32(tail[1])<<8 | uint32(tail[2])<<16 | uint32(tail[3])<<24)
}

// independent: does no choice of some of them come to 0 by exclusive or?
func independent(l []uint32) bool {
	var above [32]uint32
	for _, x := range l {
		for x != 0 && above[bits.Len32(x)-1] != 0 {
			x ^= above[bits.Len32(x)-1]
		}
		if x == 0 {
			return false
		}
		above[bits.Len32(x)-1] = x
	}
	return true
}

// Faults of bits add up, so where those of 32 bits side by side are independent, none of all the runs there is overlooked.
func TestNoRunIsOverlooked(t *testing.T) {
	for n := range api.MaxLen + 1 {
		closed := Close(some(n, 6))
		faults := make([]uint32, 8*len(closed))
		for at := range faults {
			faults[at] = fault(turned(closed, at, 1))
		}
		for at := 0; at+32 <= len(faults); at++ {
			if !independent(faults[at : at+32]) {
				t.Fatalf("of %d bytes: a run at %d is overlooked", n, at)
			}
			run := rand.New(rand.NewPCG(uint64(n), uint64(at))).Uint32()
			var want uint32
			for i := range 32 {
				want ^= faults[at+i] * (run >> i & 1)
			}
			if got := fault(turned(closed, at, run)); got != want {
				t.Fatalf("of %d bytes: the run %08X at %d: the fault %08X, want %08X", n, run, at, got, want)
			}
		}
	}
}

// P4.3

func TestNothingHandedInChanges(t *testing.T) {
	for _, b := range [][]byte{{}, {7}, []byte("123456789"), Close(nil), Close([]byte("123456789"))} {
		b = roomy(b)
		was := whole(b)
		Sum(b)
		Close(b)
		Open(b)
		if !slices.Equal(whole(b), was) {
			t.Errorf("%x, want %x", whole(b), was)
		}
	}
}

func TestAnswersAreNewMemory(t *testing.T) {
	ask := map[string]func(b []byte) []byte{
		"Close": Close,
		"Open":  func(b []byte) []byte { opened, _ := Open(b); return opened },
	}
	for name, f := range ask {
		b := roomy(Close([]byte("123456789")))
		was := whole(b)
		first := f(b)
		kept := slices.Clone(first)
		if len(kept) == 0 {
			t.Fatalf("%s: no answer", name)
		}
		for all, i := first[:cap(first)], 0; i < len(all); i++ {
			all[i] ^= 0xFF
		}
		if !slices.Equal(whole(b), was) {
			t.Errorf("%s: what was handed in changes with the answer", name)
		}
		answer := f(b)
		if !slices.Equal(answer, kept) {
			t.Errorf("%s: an answer changes with an earlier one: %x, want %x", name, answer, kept)
		}
		for i := range b {
			b[i] ^= 1
		}
		if !slices.Equal(answer, kept) {
			t.Errorf("%s: the answer changes with what was handed in", name)
		}
	}
}

func TestNothingIsKept(t *testing.T) {
	b := some(20, 7)
	sum := Sum(b)
	Sum(some(9, 8))
	Close(some(3, 8))
	Open(Close(some(30, 8)))
	if got := Sum(b); got != sum {
		t.Errorf("%08X, ahead %08X", got, sum)
	}
	closed := Close(b)
	b[0] ^= 1
	if got, ok := Open(closed); !ok || slices.Equal(got, b) {
		t.Error("what is closed hangs on what was handed in")
	}
	if Sum(b) == sum {
		t.Error("the sum is that of an earlier call")
	}
}

// P1 of the document

func TestNoCallPanics(t *testing.T) {
	for _, b := range append(samples(), make([]byte, api.MaxBits+1)) {
		Sum(b)
		Close(b)
		Open(b)
	}
}
