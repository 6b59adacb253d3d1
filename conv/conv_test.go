package conv

import (
	"math"
	"math/rand/v2"
	"slices"
	"testing"

	"shuttle/api"
	"shuttle/gf2"
)

// some is n bits, other ones for each n and each seed.
func some(n int, seed uint64) []byte {
	chance := rand.New(rand.NewPCG(uint64(n), seed))
	l := make([]byte, n)
	for i := range l {
		l[i] = byte(chance.Uint32() & 1)
	}
	return l
}

// lists are all lists of n bits.
func lists(n int) [][]byte {
	var all [][]byte
	for x := range 1 << n {
		l := make([]byte, n)
		for i := range l {
			l[i] = byte(x >> (n - 1 - i) & 1)
		}
		all = append(all, l)
	}
	return all
}

// samples are all short lists, and longer ones: noughts, ones, others.
func samples() [][]byte {
	all := [][]byte{nil, {}}
	for n := range 9 {
		all = append(all, lists(n)...)
	}
	for n := 9; n < 90; n++ {
		all = append(all, make([]byte, n), slices.Repeat([]byte{1}, n), some(n, 1))
	}
	return append(all, some(544, 2), some(1<<14, 3), slices.Repeat([]byte{1}, 1<<14))
}

// taken is, for each stream, whether it looks at the newest bit, the one ahead of it, and so on.
func taken() [4][7]byte {
	return [4][7]byte{
		{1, 0, 0, 1, 1, 1, 1}, // 4F
		{1, 0, 1, 0, 1, 1, 1}, // 57
		{1, 1, 0, 1, 1, 0, 1}, // 6D
		{1, 1, 1, 1, 0, 0, 1}, // 79
	}
}

// byHistory is the code in other words: of each step, the bits from the newest one back that a stream takes, together.
func byHistory(l []byte) []byte {
	var code []byte
	for t := range len(l) + 6 {
		for _, takes := range taken() {
			sum := 0
			for back, takesIt := range takes {
				if at := t - back; at >= 0 && at < len(l) {
					sum += int(takesIt) * int(l[at])
				}
			}
			code = append(code, byte(sum%2))
		}
	}
	return code
}

// stream is what one stream tells in a code.
func stream(code []byte, i int) []byte {
	var l []byte
	for at := i; at < len(code); at += 4 {
		l = append(l, code[at])
	}
	return l
}

// either is two lists by exclusive or.
func either(a, b []byte) []byte {
	l := slices.Clone(a)
	for i := range l {
		l[i] ^= b[i]
	}
	return l
}

// code is that of a list that must have one.
func code(t *testing.T, l []byte) []byte {
	t.Helper()
	c, e := Code(l)
	if e != api.OK {
		t.Fatalf("Code of %d bits: %d", len(l), e)
	}
	return c
}

// noStates are numbers that are no state's.
func noStates() []int {
	return []int{-1, -2, -63, -64, -65, 64, 65, 127, 128, 1 << 32, -1 << 32, math.MaxInt, math.MinInt}
}

// roomy is l with spare room behind it that holds marks, so that a write into that room shows.
func roomy(l []byte) []byte {
	return append(slices.Clone(l), 99, 98, 97, 96, 95, 94, 93, 92)[:len(l)]
}

// whole is l and its spare room.
func whole(l []byte) []byte { return slices.Clone(l[:cap(l)]) }

// P6.1

func TestOut(t *testing.T) {
	for _, c := range []struct {
		state int
		in    byte
		want  [4]byte
	}{
		{0, 0, [4]byte{0, 0, 0, 0}},
		{0, 1, [4]byte{1, 1, 1, 1}},
		{32, 0, [4]byte{0, 0, 1, 1}},
		{16, 0, [4]byte{0, 1, 0, 1}},
		{8, 0, [4]byte{1, 0, 1, 1}},
		{4, 0, [4]byte{1, 1, 1, 0}},
		{2, 0, [4]byte{1, 1, 0, 0}},
		{1, 0, [4]byte{1, 1, 1, 1}},
		{1, 1, [4]byte{0, 0, 0, 0}},
		{33, 1, [4]byte{0, 0, 1, 1}},
		{63, 0, [4]byte{0, 0, 0, 0}},
		{63, 1, [4]byte{1, 1, 1, 1}},
	} {
		if got, e := Out(c.state, c.in); got != c.want || e != api.OK {
			t.Errorf("Out(%d, %d) = %v, %d, want %v", c.state, c.in, got, e, c.want)
		}
	}
}

func TestNext(t *testing.T) {
	for _, c := range []struct {
		state int
		in    byte
		want  int
	}{
		{0, 0, 0}, {0, 1, 32}, {1, 0, 0}, {1, 1, 32}, {33, 0, 16}, {33, 1, 48}, {62, 1, 63}, {63, 0, 31}, {63, 1, 63},
	} {
		if got, e := Next(c.state, c.in); got != c.want || e != api.OK {
			t.Errorf("Next(%d, %d) = %d, %d, want %d", c.state, c.in, got, e, c.want)
		}
	}
}

func TestEachStateAndBit(t *testing.T) {
	for state := range 64 {
		for in := range 2 {
			// The word as a list: the bit, and the state's bits from the newest one back.
			word := []int{in, state / 32 % 2, state / 16 % 2, state / 8 % 2, state / 4 % 2, state / 2 % 2, state % 2}
			var told [4]byte
			for i, takes := range taken() {
				for back, takesIt := range takes {
					told[i] ^= takesIt * byte(word[back])
				}
			}
			if got, e := Out(state, byte(in)); got != told || e != api.OK {
				t.Errorf("Out(%d, %d) = %v, %d, want %v", state, in, got, e, told)
			}
			if got, e := Next(state, byte(in)); got != in*32+state/2 || e != api.OK {
				t.Errorf("Next(%d, %d) = %d, %d, want %d", state, in, got, e, in*32+state/2)
			}
		}
	}
}

func TestNoSuchStateOrBit(t *testing.T) {
	refused := func(state int, in byte) {
		t.Helper()
		if got, e := Out(state, in); got != [4]byte{} || e != api.ErrArg {
			t.Errorf("Out(%d, %d) = %v, %d", state, in, got, e)
		}
		if got, e := Next(state, in); got != 0 || e != api.ErrArg {
			t.Errorf("Next(%d, %d) = %d, %d", state, in, got, e)
		}
	}
	for _, state := range noStates() {
		for in := range 256 {
			refused(state, byte(in))
		}
	}
	for state := range 64 {
		for in := 2; in < 256; in++ {
			refused(state, byte(in))
		}
	}
}

func TestCode(t *testing.T) {
	for _, c := range []struct{ l, want []byte }{
		{nil, make([]byte, 24)},
		{[]byte{}, make([]byte, 24)},
		{[]byte{0}, make([]byte, 28)},
		{[]byte{1}, []byte{
			1, 1, 1, 1, 0, 0, 1, 1, 0, 1, 0, 1, 1, 0, 1, 1,
			1, 1, 1, 0, 1, 1, 0, 0, 1, 1, 1, 1}},
		{[]byte{0, 1}, []byte{
			0, 0, 0, 0, 1, 1, 1, 1, 0, 0, 1, 1, 0, 1, 0, 1,
			1, 0, 1, 1, 1, 1, 1, 0, 1, 1, 0, 0, 1, 1, 1, 1}},
		{[]byte{1, 1}, []byte{
			1, 1, 1, 1, 1, 1, 0, 0, 0, 1, 1, 0, 1, 1, 1, 0,
			0, 1, 0, 1, 0, 0, 1, 0, 0, 0, 1, 1, 1, 1, 1, 1}},
	} {
		if got, e := Code(c.l); !slices.Equal(got, c.want) || e != api.OK {
			t.Errorf("Code(%v) = %v, %d, want %v", c.l, got, e, c.want)
		}
	}
}

func TestCodeIsThatByHistory(t *testing.T) {
	for _, l := range samples() {
		if got, want := code(t, l), byHistory(l); !slices.Equal(got, want) {
			t.Fatalf("Code(%v) = %v, want %v", l, got, want)
		}
	}
}

func TestCodeGoesByOutAndNext(t *testing.T) {
	for _, l := range samples() {
		c, state := code(t, l), 0
		for i, in := range append(slices.Clone(l), 0, 0, 0, 0, 0, 0) {
			out, _ := Out(state, in)
			if !slices.Equal(c[4*i:4*i+4], out[:]) {
				t.Fatalf("step %d of Code(%v) is %v, want %v", i, l, c[4*i:4*i+4], out)
			}
			state, _ = Next(state, in)
		}
		if state != 0 {
			t.Fatalf("Code(%v) ends in state %d", l, state)
		}
	}
}

// Each stream is a product of polynomials: of the list and of what the stream takes.
func TestStreamsAreProducts(t *testing.T) {
	for _, l := range samples() {
		if len(l) > 57 {
			continue
		}
		var list gf2.Poly
		for _, b := range l {
			list = list<<1 | gf2.Poly(b)
		}
		for i, takes := range []gf2.Poly{0x4F, 0x57, 0x6D, 0x79} {
			var got gf2.Poly
			for _, b := range stream(code(t, l), i) {
				got = got<<1 | gf2.Poly(b)
			}
			if want, ok := gf2.Times(list, takes); got != want || !ok {
				t.Fatalf("stream %d of %v: %x, want %x", i, l, got, want)
			}
		}
	}
}

func TestCodeOfNoBits(t *testing.T) {
	for x := 2; x < 256; x++ {
		for _, l := range [][]byte{{byte(x)}, {byte(x), 0, 1}, {0, byte(x), 1}, {1, 0, byte(x)}} {
			if got, e := Code(l); len(got) != 0 || e != api.ErrField {
				t.Errorf("Code(%v) = %v, %d, want nothing and ErrField", l, got, e)
			}
		}
	}
}

func TestCodeOfTheLongestListAndOneMore(t *testing.T) {
	for _, l := range [][]byte{make([]byte, 1<<14), some(1<<14, 4)} {
		if got, e := Code(l); len(got) != 4*(1<<14+6) || e != api.OK {
			t.Errorf("of 2^14: %d bits, %d", len(got), e)
		}
	}
	for _, n := range []int{1<<14 + 1, 1<<14 + 2, 1 << 16, 1<<16 + 1} {
		l := some(n, 5)
		if got, e := Code(l); len(got) != 0 || e != api.ErrLong {
			t.Errorf("of %d: %d bits, %d, want nothing and ErrLong", n, len(got), e)
		}
		// That they aren't bits is looked for ahead of how many they are.
		l[n-1] = 2
		if got, e := Code(l); len(got) != 0 || e != api.ErrField {
			t.Errorf("of %d, the last one no bit: %d bits, %d, want nothing and ErrField", n, len(got), e)
		}
	}
}

func TestSteps(t *testing.T) {
	for _, c := range []struct{ n, want int }{
		{math.MinInt, 0}, {-7, 0}, {-6, 0}, {-1, 0}, {0, 6}, {1, 7}, {2, 8}, {544, 550}, {1 << 14, 1<<14 + 6}, {1<<14 + 1, 1<<14 + 7}, {1<<31 - 1, 1<<31 + 5},
	} {
		if got := Steps(c.n); got != c.want {
			t.Errorf("Steps(%d) = %d, want %d", c.n, got, c.want)
		}
	}
	for _, l := range samples() {
		if got := code(t, l); len(got) != 4*Steps(len(l)) {
			t.Errorf("of %d bits: %d, want 4 times %d", len(l), len(got), Steps(len(l)))
		}
	}
}

// P6.2

func TestTwoListsByExclusiveOr(t *testing.T) {
	holds := func(a, b []byte) {
		t.Helper()
		if got, want := either(code(t, a), code(t, b)), code(t, either(a, b)); !slices.Equal(got, want) {
			t.Fatalf("of %v and %v: %v, want %v", a, b, got, want)
		}
	}
	for n := range 7 {
		for _, a := range lists(n) {
			for _, b := range lists(n) {
				holds(a, b)
			}
		}
	}
	for n := 7; n < 200; n++ {
		holds(some(n, 6), some(n, 7))
		holds(some(n, 6), slices.Repeat([]byte{1}, n))
	}
	holds(some(1<<14, 6), some(1<<14, 7))
}

// P6.3

func TestEachStreamAloneTellsTheList(t *testing.T) {
	for _, l := range samples() {
		c := code(t, l)
		for i := range 4 {
			var read []byte
			state := 0
			for _, told := range stream(c, i) {
				zero, _ := Out(state, 0)
				in := told ^ zero[i]
				read = append(read, in)
				state, _ = Next(state, in)
			}
			if !slices.Equal(read[:len(l)], l) || slices.Contains(read[len(l):], 1) {
				t.Fatalf("stream %d of %v tells %v", i, l, read)
			}
		}
	}
}

func TestNoTwoListsHaveOneStream(t *testing.T) {
	for n := range 11 {
		for i := range 4 {
			seen := map[string]bool{}
			for _, l := range lists(n) {
				told := string(stream(code(t, l), i))
				if seen[told] {
					t.Fatalf("stream %d of %v is that of another list, too", i, l)
				}
				seen[told] = true
			}
		}
	}
}

// P6.4

func TestNothingHandedInChanges(t *testing.T) {
	for _, l := range [][]byte{{}, {1}, {0, 1, 1}, {0, 2}, some(100, 8), some(1<<14+1, 8)} {
		l = roomy(l)
		was := whole(l)
		Code(l)
		if !slices.Equal(whole(l), was) {
			t.Errorf("%v, want %v", whole(l), was)
		}
	}
}

func TestAnswersAreNewMemory(t *testing.T) {
	for _, l := range [][]byte{{}, {1}, some(30, 9)} {
		l = roomy(l)
		was := whole(l)
		first := code(t, l)
		kept := slices.Clone(first)
		for all, i := first[:cap(first)], 0; i < len(all); i++ {
			all[i] ^= 0xFF
		}
		if !slices.Equal(whole(l), was) {
			t.Error("what was handed in changes with the answer")
		}
		answer := code(t, l)
		if !slices.Equal(answer, kept) {
			t.Errorf("an answer changes with an earlier one: %v, want %v", answer, kept)
		}
		for i := range l {
			l[i] ^= 1
		}
		if !slices.Equal(answer, kept) {
			t.Error("the answer changes with what was handed in")
		}
	}
}

func TestNothingIsKept(t *testing.T) {
	l := some(20, 10)
	want := code(t, l)
	code(t, some(50, 11))
	Code([]byte{1, 2})
	Next(5, 1)
	if got := code(t, l); !slices.Equal(got, want) {
		t.Errorf("%v, ahead %v", got, want)
	}
	l[3] ^= 1
	if got := code(t, l); !slices.Equal(got, byHistory(l)) {
		t.Errorf("%v is that of an earlier call", got)
	}
}

// P1 of the document

func TestNoCallPanics(t *testing.T) {
	for _, n := range append(noStates(), 0, 1, 31, 32, 63) {
		Steps(n)
		for in := range 256 {
			Out(n, byte(in))
			Next(n, byte(in))
		}
	}
	for _, l := range append(samples(), []byte{2}, []byte{255, 254}, make([]byte, api.MaxBits+1)) {
		Code(l)
	}
}
