package trellis

import (
	"math"
	"math/rand/v2"
	"slices"
	"testing"

	"shuttle/api"
	"shuttle/conv"
)

// some is n bits, other ones for each n and each seed.
func some(n int, seed uint64) []byte {
	chance := rand.New(rand.NewPCG(uint64(n), seed))
	l := make([]byte, n)
	for i := range l {
		l[i] = byte(chance.Uint32() & 1)
	}
	return l
}

// samples are all short lists, and longer ones: noughts, ones, others.
func samples() [][]byte {
	all := [][]byte{nil, {}}
	for n := range 9 {
		for x := range 1 << n {
			l := make([]byte, n)
			for i := range l {
				l[i] = byte(x >> i & 1)
			}
			all = append(all, l)
		}
	}
	for n := 9; n < 70; n++ {
		all = append(all, make([]byte, n), slices.Repeat([]byte{1}, n), some(n, 1))
	}
	return append(all, some(544, 2), some(1<<14, 3))
}

// step is the edge of a state and a bit, by layer 6.
func step(state int, in byte) Edge {
	to, _ := conv.Next(state, in)
	out, _ := conv.Out(state, in)
	return Edge{state, to, in, out}
}

// noStates are numbers that are no state's.
func noStates() []int {
	return []int{-1, -2, -63, -64, -65, 64, 65, 127, 128, 1 << 32, -1 << 32, math.MaxInt, math.MinInt}
}

// roomy is l with spare room behind it that holds marks, so that a write into that room shows.
func roomy(l []byte) []byte {
	return append(slices.Clone(l), 99, 98, 97, 96, 95, 94, 93, 92)[:len(l)]
}

// whole is l and its spare room.
func whole(l []byte) []byte { return slices.Clone(l[:cap(l)]) }

// P7.1

func TestFrom(t *testing.T) {
	for _, c := range []struct {
		state int
		want  [2]Edge
	}{
		{0, [2]Edge{{0, 0, 0, [4]byte{0, 0, 0, 0}}, {0, 32, 1, [4]byte{1, 1, 1, 1}}}},
		{1, [2]Edge{{1, 0, 0, [4]byte{1, 1, 1, 1}}, {1, 32, 1, [4]byte{0, 0, 0, 0}}}},
		{32, [2]Edge{{32, 16, 0, [4]byte{0, 0, 1, 1}}, {32, 48, 1, [4]byte{1, 1, 0, 0}}}},
		{63, [2]Edge{{63, 31, 0, [4]byte{0, 0, 0, 0}}, {63, 63, 1, [4]byte{1, 1, 1, 1}}}},
	} {
		if got, e := From(c.state); got != c.want || e != api.OK {
			t.Errorf("From(%d) = %v, %d, want %v", c.state, got, e, c.want)
		}
	}
	for state := range 64 {
		want := [2]Edge{step(state, 0), step(state, 1)}
		if got, e := From(state); got != want || e != api.OK {
			t.Errorf("From(%d) = %v, %d, want %v", state, got, e, want)
		}
	}
}

func TestInto(t *testing.T) {
	for _, c := range []struct {
		state int
		want  [2]Edge
	}{
		{0, [2]Edge{{0, 0, 0, [4]byte{0, 0, 0, 0}}, {1, 0, 0, [4]byte{1, 1, 1, 1}}}},
		{32, [2]Edge{{0, 32, 1, [4]byte{1, 1, 1, 1}}, {1, 32, 1, [4]byte{0, 0, 0, 0}}}},
		{33, [2]Edge{{2, 33, 1, [4]byte{0, 0, 1, 1}}, {3, 33, 1, [4]byte{1, 1, 0, 0}}}},
		{63, [2]Edge{{62, 63, 1, [4]byte{0, 0, 0, 0}}, {63, 63, 1, [4]byte{1, 1, 1, 1}}}},
	} {
		if got, e := Into(c.state); got != c.want || e != api.OK {
			t.Errorf("Into(%d) = %v, %d, want %v", c.state, got, e, c.want)
		}
	}
}

// Those that come to a state are looked for among the steps of all states, the lowest one first.
func TestIntoIsAllThatComes(t *testing.T) {
	for state := range 64 {
		var want []Edge
		for from := range 64 {
			for in := range byte(2) {
				if s := step(from, in); s.To == state {
					want = append(want, s)
				}
			}
		}
		if got, e := Into(state); !slices.Equal(got[:], want) || e != api.OK {
			t.Errorf("Into(%d) = %v, %d, want %v", state, got, e, want)
		}
	}
}

func TestNoSuchState(t *testing.T) {
	for _, state := range noStates() {
		if got, e := From(state); got != [2]Edge{} || e != api.ErrArg {
			t.Errorf("From(%d) = %v, %d", state, got, e)
		}
		if got, e := Into(state); got != [2]Edge{} || e != api.ErrArg {
			t.Errorf("Into(%d) = %v, %d", state, got, e)
		}
	}
}

func TestPath(t *testing.T) {
	for _, c := range []struct {
		l   []byte
		tos []int
	}{
		{nil, []int{0, 0, 0, 0, 0, 0}},
		{[]byte{}, []int{0, 0, 0, 0, 0, 0}},
		{[]byte{0}, []int{0, 0, 0, 0, 0, 0, 0}},
		{[]byte{1}, []int{32, 16, 8, 4, 2, 1, 0}},
		{[]byte{1, 1}, []int{32, 48, 24, 12, 6, 3, 1, 0}},
		{[]byte{0, 1}, []int{0, 32, 16, 8, 4, 2, 1, 0}},
		{[]byte{1, 1, 1, 1, 1, 1, 1}, []int{32, 48, 56, 60, 62, 63, 63, 31, 15, 7, 3, 1, 0}},
	} {
		got, e := Path(c.l)
		var tos []int
		for _, x := range got {
			tos = append(tos, x.To)
		}
		if !slices.Equal(tos, c.tos) || e != api.OK {
			t.Errorf("Path(%v) = %v, %d, want by %v", c.l, got, e, c.tos)
		}
	}
}

func TestPathIsWhatTheCoderTakes(t *testing.T) {
	for _, l := range samples() {
		var want []Edge
		state := 0
		for _, in := range append(slices.Clone(l), 0, 0, 0, 0, 0, 0) {
			want = append(want, step(state, in))
			state, _ = conv.Next(state, in)
		}
		got, e := Path(l)
		if !slices.Equal(got, want) || e != api.OK {
			t.Fatalf("Path(%v) = %v, %d, want %v", l, got, e, want)
		}
		var told []byte
		for _, x := range got {
			told = append(told, x.Out[:]...)
		}
		if code, _ := conv.Code(l); !slices.Equal(told, code) {
			t.Fatalf("Path(%v) tells %v, want %v", l, told, code)
		}
	}
}

func TestPathOfNoBits(t *testing.T) {
	for x := 2; x < 256; x++ {
		for _, l := range [][]byte{{byte(x)}, {byte(x), 0, 1}, {1, 0, byte(x)}} {
			if got, e := Path(l); len(got) != 0 || e != api.ErrField {
				t.Errorf("Path(%v) = %v, %d, want nothing and ErrField", l, got, e)
			}
		}
	}
}

func TestPathOfTheLongestListAndOneMore(t *testing.T) {
	if got, e := Path(some(1<<14, 4)); len(got) != 1<<14+6 || e != api.OK {
		t.Errorf("of 2^14: %d edges, %d", len(got), e)
	}
	l := some(1<<14+1, 4)
	if got, e := Path(l); len(got) != 0 || e != api.ErrLong {
		t.Errorf("of one more: %d edges, %d, want nothing and ErrLong", len(got), e)
	}
	l[1<<14] = 2
	if got, e := Path(l); len(got) != 0 || e != api.ErrField {
		t.Errorf("of one more that is no bit: %d edges, %d, want nothing and ErrField", len(got), e)
	}
}

// P7.2

func TestWhatLeavesComesAndTheOtherWayRound(t *testing.T) {
	leave, come := map[Edge]int{}, map[Edge]int{}
	for state := range 64 {
		from, _ := From(state)
		into, _ := Into(state)
		for i := range 2 {
			leave[from[i]]++
			come[into[i]]++
			if back, e := Into(from[i].To); !slices.Contains(back[:], from[i]) || e != api.OK {
				t.Errorf("%v leaves %d, and doesn't come to %d", from[i], state, from[i].To)
			}
			if on, e := From(into[i].From); !slices.Contains(on[:], into[i]) || e != api.OK {
				t.Errorf("%v comes to %d, and doesn't leave %d", into[i], state, into[i].From)
			}
		}
	}
	if len(leave) != 128 || len(come) != 128 {
		t.Errorf("%d leave, %d come, want 128 of each", len(leave), len(come))
	}
	for x, n := range leave {
		if n != 1 || come[x] != 1 {
			t.Errorf("%v leaves %d times, and comes %d times", x, n, come[x])
		}
	}
}

// P7.3

func TestNothingHandedInChanges(t *testing.T) {
	for _, l := range [][]byte{{}, {1}, {0, 1, 1}, {0, 2}, some(100, 5), some(1<<14+1, 5)} {
		l = roomy(l)
		was := whole(l)
		Path(l)
		if !slices.Equal(whole(l), was) {
			t.Errorf("%v, want %v", whole(l), was)
		}
	}
}

func TestAnswersAreNewMemory(t *testing.T) {
	l := roomy(some(30, 6))
	was := whole(l)
	first, _ := Path(l)
	kept := slices.Clone(first)
	for all, i := first[:cap(first)], 0; i < len(all); i++ {
		all[i] = Edge{-1, -1, 7, [4]byte{7, 7, 7, 7}}
	}
	if !slices.Equal(whole(l), was) {
		t.Error("what was handed in changes with the answer")
	}
	answer, _ := Path(l)
	if !slices.Equal(answer, kept) {
		t.Errorf("an answer changes with an earlier one: %v, want %v", answer, kept)
	}
	for i := range l {
		l[i] ^= 1
	}
	if !slices.Equal(answer, kept) {
		t.Error("the answer changes with what was handed in")
	}
}

func TestNothingIsKept(t *testing.T) {
	for state := range 64 {
		from, _ := From(state)
		into, _ := Into(state)
		wasFrom, wasInto := from, into
		from[0].Out[0] ^= 1
		into[1].To = -1
		From(63 - state)
		Into(-1)
		Path(some(9, 7))
		if again, _ := From(state); again != wasFrom {
			t.Errorf("From(%d) = %v, ahead %v", state, again, wasFrom)
		}
		if again, _ := Into(state); again != wasInto {
			t.Errorf("Into(%d) = %v, ahead %v", state, again, wasInto)
		}
	}
	l := some(20, 8)
	Path(l)
	l[2] ^= 1
	if got, _ := Path(l); got[2] != step(got[1].To, l[2]) {
		t.Errorf("%v is of an earlier call", got[2])
	}
}

// P1 of the document

func TestNoCallPanics(t *testing.T) {
	for _, state := range append(noStates(), 0, 1, 31, 32, 63) {
		From(state)
		Into(state)
	}
	for _, l := range append(samples(), []byte{2}, []byte{255, 254}, make([]byte, api.MaxBits+1)) {
		Path(l)
	}
}
