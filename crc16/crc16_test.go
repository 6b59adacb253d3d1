package crc16

import (
	"math/bits"
	"math/rand/v2"
	"slices"
	"testing"

	"shuttle/api"
	"shuttle/gf2"
)

// some is n bytes, other ones for each n and each seed.
func some(n int, seed uint64) []byte {
	chance := rand.New(rand.NewPCG(uint64(n), seed))
	b := make([]byte, n)
	for i := range b {
		b[i] = byte(chance.Uint32())
	}
	return b
}

// samples are bytes of all lengths up to one above the limit, noughts, ones and others, and all single ones.
func samples() [][]byte {
	l := [][]byte{nil, {}, []byte("123456789"), some(1000, 1)}
	for n := range api.MaxLen + 2 {
		l = append(l, make([]byte, n), slices.Repeat([]byte{0xFF}, n), some(n, 2))
	}
	for x := range 256 {
		l = append(l, []byte{byte(x)})
	}
	return l
}

// turn turns the bits of a run in b itself: the run begins at a place, of each byte the highest bit first, and its highest bit says of the first. Twice is back.
func turn(b []byte, at int, run uint16) {
	for i := range 16 {
		if run>>(15-i)&1 == 1 {
			b[(at+i)/8] ^= 0x80 >> ((at + i) % 8)
		}
	}
}

// byPolynomial is the sum in other words: the rest by x^16 + x^12 + x^5 + 1 of all bits and 16 noughts, the first 16 of them turned.
func byPolynomial(b []byte) uint16 {
	var l []byte
	for _, x := range b {
		for i := range 8 {
			l = append(l, x>>(7-i)&1)
		}
	}
	l = append(l, make([]byte, 16)...)
	for i := range 16 {
		l[i] ^= 1
	}
	rest, _ := gf2.Rest(l, 1<<16|1<<12|1<<5|1)
	return uint16(rest)
}

// roomy is b with spare room behind it that holds marks, so that a write into that room shows.
func roomy(b []byte) []byte {
	return append(slices.Clone(b), 99, 98, 97, 96, 95, 94, 93, 92)[:len(b)]
}

// whole is b and its spare room.
func whole(b []byte) []byte { return slices.Clone(b[:cap(b)]) }

// P5.1

func TestSum(t *testing.T) {
	for _, c := range []struct {
		b    string
		want uint16
	}{
		{"123456789", 0x29B1},
		{"", 0xFFFF},
		{"\x00", 0xE1F0},
		{"\xFF", 0xFF00},
		{"A", 0xB915},
		{"\x00\x00", 0x1D0F},
		{"\xFF\xFF", 0x0000},
	} {
		if got := Sum([]byte(c.b)); got != c.want {
			t.Errorf("Sum(%q) = %04X, want %04X", c.b, got, c.want)
		}
	}
	if Sum(nil) != 0xFFFF {
		t.Error("Sum of nil isn't FFFF")
	}
}

func TestSumIsThatByThePolynomial(t *testing.T) {
	for _, b := range samples() {
		if got, want := Sum(b), byPolynomial(b); got != want {
			t.Errorf("Sum(%x) = %04X, want %04X", b, got, want)
		}
	}
}

func TestSeal(t *testing.T) {
	for _, c := range []struct{ b, want string }{
		{"", "\xFF\xFF"},
		{"\x00", "\x00\xE1\xF0"},
		{"A", "A\xB9\x15"},
		{"123456789", "123456789\x29\xB1"},
	} {
		if got := Seal([]byte(c.b)); string(got) != c.want {
			t.Errorf("Seal(%q) = %q, want %q", c.b, got, c.want)
		}
	}
	for _, b := range samples() {
		sum := byPolynomial(b)
		if got, want := Seal(b), append(slices.Clone(b), byte(sum>>8), byte(sum)); !slices.Equal(got, want) {
			t.Errorf("Seal(%x) = %x, want %x", b, got, want)
		}
	}
}

func TestRight(t *testing.T) {
	for _, c := range []struct {
		b    string
		want bool
	}{
		{"\xFF\xFF", true},
		{"\x00\xE1\xF0", true},
		{"A\xB9\x15", true},
		{"123456789\x29\xB1", true},
		{"\xFF\xFF\x00\x00", true},
		{"\x00\x00", false},
		{"\xFF\xFE", false},
		{"\x7F\xFF", false},
		{"\x00\xF0\xE1", false},
		{"\x01\xE1\xF0", false},
		{"123456789", false},
		{"123456789\xB1\x29", false},
		{"123456789\x29", false},
		{"123456789\x29\xB1\x01", false},
		{"\x29\xB1123456789", false},
	} {
		if got := Right([]byte(c.b)); got != c.want {
			t.Errorf("Right(%q) = %v", c.b, got)
		}
	}
}

func TestRightOfFewerBytesThanASum(t *testing.T) {
	if Right(nil) || Right([]byte{}) {
		t.Error("no bytes are right")
	}
	for x := range 256 {
		if Right([]byte{byte(x)}) {
			t.Errorf("the byte %x is right", x)
		}
	}
}

func TestRightOfOneSumAlone(t *testing.T) {
	for _, b := range [][]byte{nil, {0}, []byte("123456789"), some(api.MaxLen, 3)} {
		sealed := Seal(b)
		n, sum := len(b), byPolynomial(b)
		for x := range 1 << 16 {
			sealed[n], sealed[n+1] = byte(x>>8), byte(x)
			if got := Right(sealed); got != (uint16(x) == sum) {
				t.Fatalf("Right(%x) = %v", sealed, got)
			}
		}
	}
}

// P5.2

func TestWhatIsSealedIsRight(t *testing.T) {
	for _, b := range samples() {
		if !Right(Seal(b)) {
			t.Errorf("of %x", b)
		}
	}
}

func TestOneBitTurned(t *testing.T) {
	for _, b := range samples() {
		sealed := Seal(b)
		for at := range 8 * len(sealed) {
			turn(sealed, at, 1<<15)
			if Right(sealed) {
				t.Fatalf("of %x with bit %d turned", b, at)
			}
			turn(sealed, at, 1<<15)
		}
	}
}

// Each run is looked at where its first bit is turned; with noughts ahead it is another one further behind.
func TestAllRunsTurned(t *testing.T) {
	for _, n := range []int{0, 1, 2, 3, 9} {
		sealed := Seal(some(n, 4))
		for at := range 8 * len(sealed) {
			for run := 1 << 15; run < 1<<16; run++ {
				if at+16-bits.TrailingZeros16(uint16(run)) > 8*len(sealed) {
					continue
				}
				turn(sealed, at, uint16(run))
				if Right(sealed) {
					t.Fatalf("of %d bytes with the run %04X at %d turned", n, run, at)
				}
				turn(sealed, at, uint16(run))
			}
		}
	}
}

func TestRunsTurnedAtEachLength(t *testing.T) {
	chance := rand.New(rand.NewPCG(5, 2))
	for n := range api.MaxLen + 1 {
		sealed := Seal(some(n, 5))
		for at := range 8 * len(sealed) {
			runs := []uint16{1 << 15, 3 << 14, 1<<15 | 1, 1<<16 - 1, 0xAAAA, divisor | 1<<15, 0x8408, 0x8810}
			for range 40 {
				runs = append(runs, 1<<15|uint16(chance.Uint32()))
			}
			for _, run := range runs {
				if at+16-bits.TrailingZeros16(run) > 8*len(sealed) {
					continue
				}
				turn(sealed, at, run)
				if Right(sealed) {
					t.Fatalf("of %d bytes with the run %04X at %d turned", n, run, at)
				}
				turn(sealed, at, run)
			}
		}
	}
}

// P5.3

func TestNothingHandedInChanges(t *testing.T) {
	for _, b := range [][]byte{{}, {7}, []byte("123456789"), Seal(nil), Seal([]byte("123456789"))} {
		b = roomy(b)
		was := whole(b)
		Sum(b)
		Seal(b)
		Right(b)
		if !slices.Equal(whole(b), was) {
			t.Errorf("%x, want %x", whole(b), was)
		}
	}
}

func TestAnswersAreNewMemory(t *testing.T) {
	b := roomy([]byte("123456789"))
	was := whole(b)
	first := Seal(b)
	kept := slices.Clone(first)
	for all, i := first[:cap(first)], 0; i < len(all); i++ {
		all[i] ^= 0xFF
	}
	if !slices.Equal(whole(b), was) {
		t.Error("what was handed in changes with the answer")
	}
	answer := Seal(b)
	if !slices.Equal(answer, kept) {
		t.Errorf("an answer changes with an earlier one: %x, want %x", answer, kept)
	}
	for i := range b {
		b[i] ^= 1
	}
	if !slices.Equal(answer, kept) {
		t.Error("the answer changes with what was handed in")
	}
}

func TestNothingIsKept(t *testing.T) {
	b := some(20, 6)
	sum := Sum(b)
	Sum(some(9, 7))
	Right(Seal(some(3, 7)))
	if got := Sum(b); got != sum {
		t.Errorf("%04X, ahead %04X", got, sum)
	}
	sealed := Seal(b)
	b[0] ^= 1
	if !Right(sealed) {
		t.Error("what is sealed hangs on what was handed in")
	}
	if Sum(b) == sum {
		t.Error("the sum is that of an earlier call")
	}
}

// P1 of the document

func TestNoCallPanics(t *testing.T) {
	for _, b := range append(samples(), make([]byte, api.MaxBits+1)) {
		Sum(b)
		Seal(b)
		Right(b)
	}
}
