package viterbi

import (
	"math"
	"math/rand/v2"
	"slices"
	"testing"

	"shuttle/api"
	"shuttle/bits"
	"shuttle/conv"
	"shuttle/soft"
	"shuttle/trellis"
)

// most is how many numbers are allowed: those of the code of 4096 bits.
const most = 4 * (4096 + 6)

// some is n bits, other ones for each n and each seed.
func some(n int, seed uint64) []byte {
	chance := rand.New(rand.NewPCG(uint64(n), seed))
	l := make([]byte, n)
	for i := range l {
		l[i] = byte(chance.Uint32() & 1)
	}
	return l
}

// numbers is n of them from -bound to bound.
func numbers(chance *rand.Rand, n, bound int) []int {
	l := make([]int, n)
	for i := range l {
		l[i] = chance.IntN(2*bound+1) - bound
	}
	return l
}

// coded is a list and its code.
type coded struct{ list, code []byte }

// lists are all lists of n bits, in order, with their codes.
func lists(n int) []coded {
	var all []coded
	for x := range 1 << n {
		l := make([]byte, n)
		for i := range l {
			l[i] = byte(x >> (n - 1 - i) & 1)
		}
		all = append(all, coded{l, code(l)})
	}
	return all
}

// code is that of a list that has one.
func code(l []byte) []byte {
	c, _ := conv.Code(l)
	return c
}

// score is that of numbers and a code that can have one.
func score(l []int, code []byte) int {
	n, _ := soft.Score(l, code)
	return n
}

// search is Decode in other words: all lists one by one, the first of the best; and how many are as good.
func search(all []coded, l []int) (best coded, greatest, several int) {
	greatest = math.MinInt
	for _, c := range all {
		switch n := score(l, c.code); {
		case n > greatest:
			best, greatest, several = c, n, 1
		case n == greatest:
			several++
		}
	}
	return best, greatest, several
}

// told fails unless Decode answers that list, and the score of its code.
func told(t *testing.T, l []int, want []byte) {
	t.Helper()
	got, n, e := Decode(l)
	if !slices.Equal(got, want) || n != score(l, code(want)) || e != api.OK {
		t.Fatalf("Decode(%v) = %v, %d, %d, want %v, %d", l, got, n, e, want, score(l, code(want)))
	}
}

// turned is l with the opposites of the numbers at some places.
func turned(l []int, at []int) []int {
	l = slices.Clone(l)
	for _, i := range at {
		l[i] = -l[i]
	}
	return l
}

// free is the least weight of a way from state 0 back to it that leaves it: no two codes are less apart.
func free() int {
	const far = 1 << 20
	least := slices.Repeat([]int{far}, api.States)
	first, _ := trellis.From(0)
	least[first[1].To] = bits.Weight(first[1].Out[:])
	for range api.States {
		for state := 1; state < api.States; state++ {
			edges, _ := trellis.From(state)
			for _, x := range edges {
				least[x.To] = min(least[x.To], least[state]+bits.Weight(x.Out[:]))
			}
		}
	}
	return least[0]
}

// roomy is l with spare room behind it that holds marks, so that a write into that room shows.
func roomy(l []int) []int {
	return append(slices.Clone(l), 99, 98, 97, 96, 95, 94, 93, 92)[:len(l)]
}

// whole is l and its spare room.
func whole(l []int) []int { return slices.Clone(l[:cap(l)]) }

// P9.1

func TestDecode(t *testing.T) {
	if got, n, e := Decode(make([]int, 24)); len(got) != 0 || n != 0 || e != api.OK {
		t.Errorf("of 24 noughts: %v, %d, %d", got, n, e)
	}
	if got, n, e := Decode(make([]int, 28)); !slices.Equal(got, []byte{0}) || n != 0 || e != api.OK {
		t.Errorf("of 28 noughts: %v, %d, %d", got, n, e)
	}
	// A list of no bits is the only one, however badly it goes with the numbers.
	for _, x := range []int{-31, -1, 1, 31} {
		if got, n, e := Decode(slices.Repeat([]int{x}, 24)); len(got) != 0 || n != 24*x || e != api.OK {
			t.Errorf("of 24 times %d: %v, %d, %d", x, got, n, e)
		}
	}
	// Of 28 numbers -1: a 1 tells twenty ones and eight noughts.
	if got, n, e := Decode(slices.Repeat([]int{-1}, 28)); !slices.Equal(got, []byte{1}) || n != 12 || e != api.OK {
		t.Errorf("of 28 times -1: %v, %d, %d", got, n, e)
	}
}

func TestDecodeOfCodes(t *testing.T) {
	for n := range 10 {
		for _, c := range lists(n) {
			told(t, soft.All(c.code), c.list)
		}
	}
	for n := 10; n < 100; n++ {
		told(t, soft.All(code(some(n, 1))), some(n, 1))
	}
	told(t, soft.All(code(some(544, 1))), some(544, 1))
}

func TestDecodeIsTheBestOfAllLists(t *testing.T) {
	chance := rand.New(rand.NewPCG(9, 1))
	for n := range 11 {
		all := lists(n)
		for _, bound := range []int{1, 2, 7, 31} {
			for range 20 {
				l := numbers(chance, 4*(n+6), bound)
				want, greatest, _ := search(all, l)
				got, s, e := Decode(l)
				if !slices.Equal(got, want.list) || s != greatest || e != api.OK {
					t.Fatalf("Decode(%v) = %v, %d, %d, want %v, %d", l, got, s, e, want.list, greatest)
				}
			}
		}
	}
}

func TestDecodeOfTheGreatestNumbers(t *testing.T) {
	chance := rand.New(rand.NewPCG(9, 2))
	for n := range 9 {
		all := lists(n)
		for range 30 {
			l := numbers(chance, 4*(n+6), 1)
			for i := range l {
				l[i] *= 31
			}
			want, greatest, _ := search(all, l)
			got, s, e := Decode(l)
			if !slices.Equal(got, want.list) || s != greatest || e != api.OK {
				t.Fatalf("Decode(%v) = %v, %d, %d, want %v, %d", l, got, s, e, want.list, greatest)
			}
		}
	}
}

func TestNoughtsAloneTellNoughts(t *testing.T) {
	for _, n := range []int{0, 1, 2, 3, 7, 8, 64, 544, 4095, 4096} {
		told(t, make([]int, 4*(n+6)), make([]byte, n))
	}
}

// Few numbers that aren't 0, and small ones, leave many lists as good as each other.
func TestOfSeveralTheFirstInOrder(t *testing.T) {
	chance := rand.New(rand.NewPCG(9, 3))
	ties := 0
	for n := 1; n < 10; n++ {
		all := lists(n)
		for _, kept := range []int{1, 2, 4, 8, 16, 64} {
			for range 15 {
				l := make([]int, 4*(n+6))
				for range kept {
					l[chance.IntN(len(l))] = chance.IntN(3) - 1
				}
				want, greatest, several := search(all, l)
				if several > 1 {
					ties++
				}
				got, s, e := Decode(l)
				if !slices.Equal(got, want.list) || s != greatest || e != api.OK {
					t.Fatalf("Decode(%v) = %v, %d, %d, want %v, %d", l, got, s, e, want.list, greatest)
				}
			}
		}
	}
	if ties < 200 {
		t.Errorf("only %d of them were of several", ties)
	}
}

// The codes of two lists that are unlike in one bit, put together, go as well with both of them,
// and with no third one: that would have to stand between them, and there is no room for it.
func TestOfTwoTheFirstInOrder(t *testing.T) {
	for _, n := range []int{1, 2, 9, 100, 4096} {
		for _, at := range []int{0, 1, n / 3, n / 2, n - 2, n - 1} {
			if at < 0 || at >= n {
				continue
			}
			first := some(n, 4)
			first[at] = 0
			second := slices.Clone(first)
			second[at] = 1
			l := soft.All(code(first))
			for i, x := range soft.All(code(second)) {
				l[i] = soft.Add(l[i], x)
			}
			told(t, l, first)
			// The least for the second one makes it the better one.
			where := slices.Index(l[4*at:], 0) + 4*at
			l[where] = soft.Of(code(second)[where])
			told(t, l, second)
		}
	}
}

func TestCountsThatNoCodeHas(t *testing.T) {
	for n := range 200 {
		_, s, e := Decode(make([]int, n))
		want := api.OK
		if n%4 != 0 || n < 24 {
			want = api.ErrArg
		}
		if s != 0 || e != want {
			t.Errorf("of %d numbers: %d, %d, want %d", n, s, e, want)
		}
	}
	if l, s, e := Decode(nil); len(l) != 0 || s != 0 || e != api.ErrArg {
		t.Errorf("of nil: %v, %d, %d", l, s, e)
	}
}

func TestTheGreatestCountAndTheNextOne(t *testing.T) {
	list := some(4096, 5)
	l := soft.All(code(list))
	if len(l) != most {
		t.Fatalf("%d numbers", len(l))
	}
	told(t, l, list)
	for _, more := range []int{1, 2, 3, 4, 5, 8, 4 * 4096, api.MaxBits} {
		got, s, e := Decode(append(slices.Clone(l), make([]int, more)...))
		if len(got) != 0 || s != 0 || e != api.ErrArg {
			t.Errorf("of %d more: %d bits, %d, %d, want ErrArg", more, len(got), s, e)
		}
	}
}

func TestNumbersOutsideTheBounds(t *testing.T) {
	wrong := []int{32, 33, 64, 256, 1 << 32, math.MaxInt, -32, -33, -64, -256, -1 << 32, math.MinInt}
	for _, n := range []int{24, 28, 64, most} {
		for _, at := range []int{0, 1, n / 2, n - 24, n - 1} {
			for _, x := range wrong {
				l := make([]int, n)
				l[at] = x
				if got, s, e := Decode(l); len(got) != 0 || s != 0 || e != api.ErrField {
					t.Fatalf("of %d numbers with %d at %d: %v, %d, %d, want ErrField", n, x, at, got, s, e)
				}
			}
		}
		for _, x := range []int{31, -31} {
			l := make([]int, n)
			l[0], l[n-1] = x, x
			if _, _, e := Decode(l); e != api.OK {
				t.Errorf("of %d numbers with %d: %d", n, x, e)
			}
		}
	}
	// That no code has so many is looked for ahead of what they are.
	for _, n := range []int{1, 20, 23, 25, most + 1, most + 4} {
		for _, x := range wrong {
			if got, s, e := Decode(slices.Repeat([]int{x}, n)); len(got) != 0 || s != 0 || e != api.ErrArg {
				t.Errorf("of %d times %d: %v, %d, %d, want ErrArg", n, x, got, s, e)
			}
		}
	}
}

// P9.2

func TestFreeIsTheLeastOfShortLists(t *testing.T) {
	for n := 1; n < 11; n++ {
		least := math.MaxInt
		for _, c := range lists(n)[1:] {
			least = min(least, bits.Weight(c.code))
		}
		if least != free() {
			t.Errorf("of %d bits: %d, want %d", n, least, free())
		}
	}
}

// Fewer than half of the least that two codes are apart may be turned, wherever they stand.
func TestFewerThanHalfTurned(t *testing.T) {
	chance := rand.New(rand.NewPCG(9, 4))
	turns := (free() - 1) / 2
	for _, n := range []int{0, 1, 2, 3, 8, 50, 544} {
		for k := range turns + 1 {
			for range 10 {
				list := some(n, chance.Uint64())
				l := soft.All(code(list))
				for i := range l {
					l[i] *= k + 1
				}
				told(t, turned(l, chance.Perm(len(l))[:k]), list)
				// All of them side by side.
				at := chance.IntN(len(l) - k + 1)
				run := make([]int, k)
				for i := range run {
					run[i] = at + i
				}
				told(t, turned(l, run), list)
			}
		}
	}
	list := some(4096, 6)
	told(t, turned(soft.All(code(list)), chance.Perm(most)[:turns]), list)
}

// What is turned stands only where the other one is unlike: that is the worst.
func TestFewerThanHalfTurnedTowardsAnother(t *testing.T) {
	chance := rand.New(rand.NewPCG(9, 5))
	for n := 1; n < 8; n++ {
		all := lists(n)
		for _, a := range all {
			b := all[chance.IntN(len(all))]
			apart, _ := bits.Apart(a.code, b.code)
			if apart == 0 {
				continue
			}
			var unlike []int
			for i := range a.code {
				if a.code[i] != b.code[i] {
					unlike = append(unlike, i)
				}
			}
			chance.Shuffle(apart, func(i, j int) { unlike[i], unlike[j] = unlike[j], unlike[i] })
			l := turned(soft.All(a.code), unlike[:(apart-1)/2])
			if got, _, e := Decode(l); slices.Equal(got, b.list) || e != api.OK {
				t.Fatalf("%v was turned less than half towards %v, and that is told (%d)", a.list, b.list, e)
			}
			// One more than half of them: now the other one goes before it.
			l = turned(soft.All(a.code), unlike[:apart/2+1])
			if got, _, e := Decode(l); slices.Equal(got, a.list) || e != api.OK {
				t.Fatalf("%v was turned more than half towards %v, and is told (%d)", a.list, b.list, e)
			}
		}
	}
}

// A number is told wrongly, too, where it is 0, or of another amount: then what is for the other
// list counts, by its amount, against what is for the one.
func TestLessToldWronglyThanRightly(t *testing.T) {
	chance := rand.New(rand.NewPCG(9, 6))
	for n := 1; n < 8; n++ {
		all := lists(n)
		for range 100 {
			a := all[chance.IntN(len(all))]
			l := soft.All(a.code)
			for i := range l {
				l[i] *= chance.IntN(35) - 3
				l[i] = soft.Clip(l[i])
			}
			got, _, e := Decode(l)
			for _, b := range all {
				ours := score(l, a.code) - score(l, b.code)
				if ours > 0 && slices.Equal(got, b.list) || e != api.OK {
					t.Fatalf("%v goes before %v by %d, and that is told (%d)", a.list, b.list, ours, e)
				}
			}
		}
	}
}

func TestFewerThanAllLost(t *testing.T) {
	chance := rand.New(rand.NewPCG(9, 7))
	for _, n := range []int{1, 2, 8, 100} {
		for range 50 {
			list := some(n, chance.Uint64())
			l := soft.All(code(list))
			places := chance.Perm(len(l))
			// A number that is 0 takes one from how far codes are apart, a turned one two.
			wrong := chance.IntN(free() / 2)
			lost := free() - 1 - 2*wrong
			l = turned(l, places[:wrong])
			for _, i := range places[wrong : wrong+lost] {
				l[i] = 0
			}
			told(t, l, list)
		}
	}
}

// P9.3

func TestNothingHandedInChanges(t *testing.T) {
	chance := rand.New(rand.NewPCG(9, 8))
	for _, l := range [][]int{{}, {1, 2}, {32}, make([]int, 24), {24: 32, 27: 0}, numbers(chance, 28, 31), numbers(chance, 400, 31), numbers(chance, most+4, 31)} {
		l = roomy(l)
		was := whole(l)
		Decode(l)
		if !slices.Equal(whole(l), was) {
			t.Errorf("%v, want %v", whole(l), was)
		}
	}
}

func TestAnswersAreNewMemory(t *testing.T) {
	chance := rand.New(rand.NewPCG(9, 9))
	l := numbers(chance, 4*36, 31)
	first, s, _ := Decode(l)
	kept := slices.Clone(first)
	for all, i := first[:cap(first)], 0; i < len(all); i++ {
		all[i] = 7
	}
	answer, again, e := Decode(l)
	if !slices.Equal(answer, kept) || again != s || e != api.OK {
		t.Errorf("an answer changes with an earlier one: %v, want %v", answer, kept)
	}
	clear(l)
	if !slices.Equal(answer, kept) {
		t.Error("the answer changes with what was handed in")
	}
}

func TestNothingIsKept(t *testing.T) {
	list, other := some(30, 10), some(30, 11)
	told(t, soft.All(code(list)), list)
	Decode([]int{1})
	told(t, soft.All(code(other)), other)
	Decode(slices.Repeat([]int{32}, 28))
	told(t, soft.All(code(some(5, 10))), some(5, 10))
	told(t, soft.All(code(list)), list)
	// The same numbers in the same memory, changed between two calls.
	l := soft.All(code(list))
	told(t, l, list)
	copy(l, soft.All(code(other)))
	told(t, l, other)
}

// P1 of the document

func TestNoCallPanics(t *testing.T) {
	for n := range 64 {
		for _, x := range []int{0, 1, -31, 31, -32, 32, math.MaxInt, math.MinInt} {
			Decode(slices.Repeat([]int{x}, n))
		}
	}
	for _, n := range []int{most - 4, most - 1, most, most + 1, most + 4, api.MaxBits + 1} {
		Decode(slices.Repeat([]int{-31}, n))
		Decode(slices.Repeat([]int{math.MinInt}, n))
	}
	Decode(nil)
}
