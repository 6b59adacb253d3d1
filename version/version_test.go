package version

import (
	"math"
	"math/rand/v2"
	"slices"
	"testing"

	"shuttle/api"
	"shuttle/conv"
	"shuttle/pattern"
)

// some is n bits, other ones for each n and each seed.
func some(n int, seed uint64) []byte {
	chance := rand.New(rand.NewPCG(uint64(n), seed))
	l := make([]byte, n)
	for i := range l {
		l[i] = byte(chance.Uint32() & 1)
	}
	return l
}

// lists are all lists of n bits.
func lists(n int) [][]byte {
	var all [][]byte
	for x := range 1 << n {
		l := make([]byte, n)
		for i := range l {
			l[i] = byte(x >> (n - 1 - i) & 1)
		}
		all = append(all, l)
	}
	return all
}

// samples are all short lists, and longer ones: noughts, ones, others.
func samples() [][]byte {
	all := [][]byte{nil, {}}
	for n := range 9 {
		all = append(all, lists(n)...)
	}
	for n := 9; n < 90; n++ {
		all = append(all, make([]byte, n), slices.Repeat([]byte{1}, n), some(n, 1))
	}
	// Those of 2^14 bits have more steps than pattern.Places tells of.
	return append(all, some(544, 2), some(4096, 2), some(1<<14-6, 2), some(1<<14-5, 2), some(1<<14, 2), slices.Repeat([]byte{1}, 1<<14))
}

// codes are counts of whole steps, of codes that the coder tells and of others, short and long.
func codes() [][]byte {
	all := [][]byte{nil, {}}
	for steps := range 40 {
		all = append(all, some(4*steps, 3), slices.Repeat([]byte{1}, 4*steps))
	}
	for _, steps := range []int{550, 1<<14 - 1, 1 << 14, 1<<14 + 1, 1<<14 + 6, 1<<14 + 7, 1 << 16} {
		all = append(all, some(4*steps, 3))
	}
	return all
}

// noVersions are numbers that are no version's.
func noVersions() []int {
	return []int{-1, -2, -4, -5, 4, 5, 8, 1 << 32, -1 << 32, math.MaxInt, math.MinInt}
}

// long is the code of a list that is too long for conv.Code, by the coder's steps.
func long(l []byte) []byte {
	var code []byte
	state := 0
	for _, in := range append(slices.Clone(l), 0, 0, 0, 0, 0, 0) {
		out, _ := conv.Out(state, in)
		code = append(code, out[:]...)
		state, _ = conv.Next(state, in)
	}
	return code
}

// roomy is l with spare room behind it that holds marks, so that a write into that room shows.
func roomy(l []byte) []byte {
	return append(slices.Clone(l), 99, 98, 97, 96, 95, 94, 93, 92)[:len(l)]
}

// whole is l and its spare room.
func whole(l []byte) []byte { return slices.Clone(l[:cap(l)]) }

// spoil writes over a list and its spare room.
func spoil(l []byte) {
	for all, i := l[:cap(l)], 0; i < len(all); i++ {
		all[i] ^= 0xFF
	}
}

// empty: is there no bit in any of them?
func empty(parts [4][]byte) bool {
	return len(parts[0])+len(parts[1])+len(parts[2])+len(parts[3]) == 0
}

// same: are they alike?
func same(a, b [4][]byte) bool {
	return slices.EqualFunc(a[:], b[:], slices.Equal[[]byte])
}

// copied is parts in other memory, each with marks behind it.
func copied(parts [4][]byte) [4][]byte {
	for v := range parts {
		parts[v] = roomy(parts[v])
	}
	return parts
}

// P11.1

func TestSplit(t *testing.T) {
	for _, c := range []struct {
		code []byte
		want [4][]byte
	}{
		{nil, [4][]byte{}},
		{[]byte{}, [4][]byte{}},
		{[]byte{1, 0, 1, 1}, [4][]byte{{1}, {0}, {1}, {1}}},
		{[]byte{1, 0, 0, 0, 1, 0, 0, 0}, [4][]byte{{1, 0}, {0, 0}, {0, 0}, {0, 1}}},
		{[]byte{1, 0, 0, 0, 0, 1, 0, 0, 0, 0, 1, 0, 0, 0, 0, 1, 1, 0, 0, 0},
			[4][]byte{{1, 1, 1, 1, 1}, {0, 0, 0, 0, 0}, {0, 0, 0, 0, 0}, {0, 0, 0, 0, 0}}},
		{[]byte{0, 0, 0, 1, 0, 0, 0, 1, 0, 0, 0, 1, 0, 0, 0, 1},
			[4][]byte{{0, 0, 0, 1}, {0, 0, 1, 0}, {0, 1, 0, 0}, {1, 0, 0, 0}}},
	} {
		if got, e := Split(c.code); !same(got, c.want) || e != api.OK {
			t.Errorf("Split(%v) = %v, %d, want %v", c.code, got, e, c.want)
		}
	}
}

func TestSplitGoesByThePattern(t *testing.T) {
	for _, code := range codes() {
		parts, e := Split(code)
		if e != api.OK {
			t.Fatalf("of %d bits: %d", len(code), e)
		}
		for v, part := range parts {
			if len(part) != len(code)/4 {
				t.Fatalf("version %d of %d bits has %d", v, len(code), len(part))
			}
			for step, b := range part {
				if stream, _ := pattern.Stream(v, step); b != code[4*step+stream] {
					t.Fatalf("version %d of %d bits is wrong at step %d", v, len(code), step)
				}
			}
		}
	}
}

func TestSplitRefuses(t *testing.T) {
	for n := range 70 {
		want := api.OK
		if n%4 != 0 {
			want = api.ErrArg
		}
		if got, e := Split(make([]byte, n)); e != want || e != api.OK && !empty(got) {
			t.Errorf("Split of %d bits: %v, %d, want %d", n, got, e, want)
		}
		// That they aren't bits is looked for ahead of how many they are.
		for at := range n {
			for _, x := range []byte{2, 3, 128, 255} {
				code := some(n, 4)
				code[at] = x
				if got, e := Split(code); !empty(got) || e != api.ErrField {
					t.Errorf("Split(%v) = %v, %d, want nothing and ErrField", code, got, e)
				}
			}
		}
	}
	for _, n := range []int{4*(1<<14) + 1, 1<<18 - 1} {
		if got, e := Split(make([]byte, n)); !empty(got) || e != api.ErrArg {
			t.Errorf("Split of %d bits: %d, want nothing and ErrArg", n, e)
		}
	}
}

func TestJoin(t *testing.T) {
	for _, c := range []struct {
		parts [4][]byte
		want  []byte
	}{
		{[4][]byte{}, nil},
		{[4][]byte{{}, nil, {}, nil}, nil},
		{[4][]byte{{1}, {0}, {1}, {1}}, []byte{1, 0, 1, 1}},
		{[4][]byte{{1, 0}, {0, 0}, {0, 0}, {0, 1}}, []byte{1, 0, 0, 0, 1, 0, 0, 0}},
		{[4][]byte{{0, 0, 0}, {1, 1, 1}, {0, 0, 0}, {0, 0, 0}}, []byte{0, 1, 0, 0, 0, 0, 1, 0, 0, 0, 0, 1}},
	} {
		if got, e := Join(c.parts); !slices.Equal(got, c.want) || e != api.OK {
			t.Errorf("Join(%v) = %v, %d, want %v", c.parts, got, e, c.want)
		}
	}
}

func TestJoinRefuses(t *testing.T) {
	for v := range 4 {
		for n := range 12 {
			// One part is of another length than the others.
			for _, other := range []int{0, n - 1, n + 1, n + 4} {
				if other < 0 || other == n {
					continue
				}
				parts := [4][]byte{make([]byte, n), make([]byte, n), make([]byte, n), make([]byte, n)}
				parts[v] = make([]byte, other)
				if got, e := Join(parts); len(got) != 0 || e != api.ErrArg {
					t.Errorf("Join(%v) = %v, %d, want nothing and ErrArg", parts, got, e)
				}
				if other == 0 {
					continue
				}
				// That they aren't bits is looked for ahead of how many they are.
				parts[v][other-1] = 2
				if got, e := Join(parts); len(got) != 0 || e != api.ErrField {
					t.Errorf("Join(%v) = %v, %d, want nothing and ErrField", parts, got, e)
				}
			}
			for at := range n {
				for _, x := range []byte{2, 3, 128, 255} {
					parts := [4][]byte{some(n, 5), some(n, 6), some(n, 7), some(n, 8)}
					parts[v][at] = x
					if got, e := Join(parts); len(got) != 0 || e != api.ErrField {
						t.Errorf("Join(%v) = %v, %d, want nothing and ErrField", parts, got, e)
					}
				}
			}
		}
	}
	// Of two that are unlike, as of two pairs that are each alike.
	for _, parts := range [][4][]byte{
		{{0}, {0}, {0, 0}, {0, 0}},
		{{0}, {0, 0}, {0}, {0, 0}},
		{{0}, {0, 0}, {0, 0, 0}, {0, 0, 0, 0}},
	} {
		if got, e := Join(parts); len(got) != 0 || e != api.ErrArg {
			t.Errorf("Join(%v) = %v, %d, want nothing and ErrArg", parts, got, e)
		}
	}
}

func TestBits(t *testing.T) {
	for _, c := range []struct{ n, want int }{
		{math.MinInt, 0}, {-7, 0}, {-6, 0}, {-1, 0}, {0, 6}, {1, 7}, {544, 550}, {4096, 4102}, {1 << 14, 1<<14 + 6}, {1<<31 - 1, 1<<31 + 5},
	} {
		if got := Bits(c.n); got != c.want {
			t.Errorf("Bits(%d) = %d, want %d", c.n, got, c.want)
		}
	}
}

func TestCode(t *testing.T) {
	for v, want := range [][]byte{
		{1, 0, 0, 1, 1, 1, 1},
		{1, 1, 1, 1, 1, 0, 1},
		{1, 1, 0, 0, 1, 0, 1},
		{1, 0, 1, 1, 0, 1, 1},
	} {
		if got, e := Code([]byte{1}, v); !slices.Equal(got, want) || e != api.OK {
			t.Errorf("Code(1, %d) = %v, %d, want %v", v, got, e, want)
		}
		if got, e := Code(nil, v); !slices.Equal(got, make([]byte, 6)) || e != api.OK {
			t.Errorf("Code(nil, %d) = %v, %d, want six noughts", v, got, e)
		}
	}
}

func TestCodeIsAVersionOfTheCode(t *testing.T) {
	for _, l := range samples() {
		code, _ := conv.Code(l)
		parts, _ := Split(code)
		for v := range 4 {
			got, e := Code(l, v)
			if !slices.Equal(got, parts[v]) || len(got) != Bits(len(l)) || e != api.OK {
				t.Fatalf("Code of %d bits, %d: %v, %d, want %v", len(l), v, got, e, parts[v])
			}
		}
	}
}

func TestCodeRefuses(t *testing.T) {
	refused := func(l []byte, v int, want api.Errno) {
		t.Helper()
		if got, e := Code(l, v); len(got) != 0 || e != want {
			t.Errorf("Code of %d bits, %d: %d bits, %d, want nothing and %d", len(l), v, len(got), e, want)
		}
	}
	longer := make([]byte, 1<<14+1)
	both := slices.Clone(longer)
	both[1<<14] = 2
	for v := range 4 {
		refused([]byte{2}, v, api.ErrField)
		refused([]byte{0, 1, 255}, v, api.ErrField)
		refused(longer, v, api.ErrLong)
		refused(both, v, api.ErrField)
	}
	for _, v := range noVersions() {
		refused(nil, v, api.ErrArg)
		refused([]byte{1, 0}, v, api.ErrArg)
		refused(make([]byte, 1<<14), v, api.ErrArg)
		// conv.Code's errors are looked for ahead of the version.
		refused([]byte{1, 2}, v, api.ErrField)
		refused(longer, v, api.ErrLong)
		refused(both, v, api.ErrField)
	}
}

func TestAloneRefuses(t *testing.T) {
	for v := range 4 {
		for n := range 6 {
			for _, part := range lists(n) {
				if got, e := Alone(part, v); len(got) != 0 || e != api.ErrArg {
					t.Errorf("Alone(%v, %d) = %v, %d, want nothing and ErrArg", part, v, got, e)
				}
			}
		}
		if got, e := Alone(nil, v); len(got) != 0 || e != api.ErrArg {
			t.Errorf("Alone(nil, %d) = %v, %d, want nothing and ErrArg", v, got, e)
		}
		// That they aren't bits is looked for ahead of how many they are.
		for n := 1; n < 20; n++ {
			for at := range n {
				part := make([]byte, n)
				part[at] = 2
				if got, e := Alone(part, v); len(got) != 0 || e != api.ErrField {
					t.Errorf("Alone(%v, %d) = %v, %d, want nothing and ErrField", part, v, got, e)
				}
			}
		}
	}
	for _, v := range noVersions() {
		for _, part := range [][]byte{nil, {0}, make([]byte, 6), {1, 1, 1, 1, 1, 1}, make([]byte, 50)} {
			if got, e := Alone(part, v); len(got) != 0 || e != api.ErrArg {
				t.Errorf("Alone(%v, %d) = %v, %d, want nothing and ErrArg", part, v, got, e)
			}
		}
		if got, e := Alone([]byte{1, 0, 255}, v); len(got) != 0 || e != api.ErrField {
			t.Errorf("Alone(1 0 255, %d) = %v, %d, want nothing and ErrField", v, got, e)
		}
	}
}

// All parts of up to 14 bits: each is told as the list's whose version it is, or is none's.
func TestAloneOfAllShortParts(t *testing.T) {
	for v := range 4 {
		for n := range 9 {
			of := map[string][]byte{}
			for _, l := range lists(n) {
				part, _ := Code(l, v)
				of[string(part)] = l
			}
			if len(of) != 1<<n {
				t.Fatalf("version %d of the lists of %d bits: only %d unlike ones", v, n, len(of))
			}
			for _, part := range lists(n + 6) {
				want, has := of[string(part)]
				got, e := Alone(part, v)
				if has && (!slices.Equal(got, want) || e != api.OK) {
					t.Fatalf("Alone(%v, %d) = %v, %d, want %v", part, v, got, e, want)
				}
				if !has && (len(got) != 0 || e != api.ErrForm) {
					t.Fatalf("Alone(%v, %d) = %v, %d, want nothing and ErrForm", part, v, got, e)
				}
			}
		}
	}
}

// With one bit turned it is another list's version, or none's; never that list's, and in the
// last six steps always none's.
func TestAloneWithABitTurned(t *testing.T) {
	forms := 0
	for _, list := range [][]byte{nil, {1}, some(7, 9), some(40, 9), some(544, 9)} {
		for v := range 4 {
			part, _ := Code(list, v)
			for at := range part {
				part[at] ^= 1
				got, e := Alone(part, v)
				again, _ := Code(got, v)
				switch {
				case e == api.ErrForm:
					forms++
					if len(got) != 0 {
						t.Fatalf("ErrForm, and %v", got)
					}
				case e != api.OK || !slices.Equal(again, part) || at >= len(list):
					t.Fatalf("Alone(%v, %d) = %v, %d", part, v, got, e)
				}
				part[at] ^= 1
			}
		}
	}
	if forms < 2000 {
		t.Errorf("only %d were none's", forms)
	}
}

func TestAloneOfTheWrongVersion(t *testing.T) {
	list := some(60, 10)
	for v := range 4 {
		part, _ := Code(list, v)
		for other := range 4 {
			if got, e := Alone(part, other); other != v && (slices.Equal(got, list) || e == api.OK) {
				t.Errorf("version %d read as %d: %v, %d", v, other, got, e)
			}
		}
	}
}

// P11.2

func TestACodeComesBackFromItsVersions(t *testing.T) {
	for _, code := range codes() {
		parts, _ := Split(code)
		if got, e := Join(parts); !slices.Equal(got, code) || e != api.OK {
			t.Fatalf("of %d bits: %d, or another code", len(code), e)
		}
	}
	for _, n := range []int{0, 1, 2, 3, 4, 5, 6, 7, 100, 1 << 14, 1<<14 + 7} {
		parts := [4][]byte{some(n, 11), some(n, 12), some(n, 13), some(n, 14)}
		code, _ := Join(parts)
		if got, e := Split(code); !same(got, parts) || e != api.OK {
			t.Fatalf("of %d steps: %d, or other versions", n, e)
		}
	}
}

func TestAListComesBackFromEachVersion(t *testing.T) {
	for _, l := range samples() {
		for v := range 4 {
			part, _ := Code(l, v)
			if got, e := Alone(part, v); !slices.Equal(got, l) || e != api.OK {
				t.Fatalf("version %d of %d bits: %v, %d", v, len(l), got, e)
			}
		}
	}
}

// The chapter sets no bound to the lists that Alone tells, though Code has one.
func TestAListThatIsTooLongForCode(t *testing.T) {
	for _, n := range []int{1<<14 + 1, 1<<14 + 2, 1 << 16} {
		l := some(n, 15)
		parts, _ := Split(long(l))
		for v, part := range parts {
			if got, e := Alone(part, v); !slices.Equal(got, l) || e != api.OK {
				t.Errorf("version %d of %d bits: %d", v, n, e)
			}
			part[n+5] ^= 1
			if got, e := Alone(part, v); len(got) != 0 || e != api.ErrForm {
				t.Errorf("version %d of %d bits, one turned: %d", v, n, e)
			}
		}
	}
}

// P11.3

func TestNothingHandedInChanges(t *testing.T) {
	for _, l := range [][]byte{{}, {1}, {0, 1, 1, 0}, {0, 2, 1, 1, 0, 0, 1}, some(100, 16), make([]byte, 40)} {
		l = roomy(l)
		was := whole(l)
		Split(l)
		for v := -1; v < 5; v++ {
			Code(l, v)
			Alone(l, v)
		}
		Join([4][]byte{l, l, l, l})
		Join([4][]byte{l, nil, l, l})
		if !slices.Equal(whole(l), was) {
			t.Errorf("%v, want %v", whole(l), was)
		}
	}
}

func TestSplitsAnswersAreNewMemory(t *testing.T) {
	code := roomy(some(40, 17))
	was := whole(code)
	parts, _ := Split(code)
	kept := copied(parts)
	for v := range parts {
		// Writing over one of them, and behind it, leaves the others.
		spoil(parts[v])
		for other := v + 1; other < 4; other++ {
			if !slices.Equal(parts[other], kept[other]) {
				t.Errorf("version %d changes with version %d", other, v)
			}
		}
	}
	if !slices.Equal(whole(code), was) {
		t.Error("what was handed in changes with the answer")
	}
	parts, _ = Split(code)
	if !same(parts, kept) {
		t.Error("an answer changes with an earlier one")
	}
	spoil(code)
	if !same(parts, kept) {
		t.Error("the answer changes with what was handed in")
	}
}

func TestJoinsAnswersAreNewMemory(t *testing.T) {
	parts := copied([4][]byte{some(9, 18), some(9, 19), some(9, 20), some(9, 21)})
	was := copied(parts)
	first, _ := Join(parts)
	kept := slices.Clone(first)
	spoil(first)
	if !same(parts, was) {
		t.Error("what was handed in changes with the answer")
	}
	answer, _ := Join(parts)
	if !slices.Equal(answer, kept) {
		t.Error("an answer changes with an earlier one")
	}
	for _, part := range parts {
		spoil(part)
	}
	if !slices.Equal(answer, kept) {
		t.Error("the answer changes with what was handed in")
	}
}

func TestOthersAnswersAreNewMemory(t *testing.T) {
	list := some(30, 22)
	for v := range 4 {
		part, _ := Code(list, v)
		for _, c := range []struct {
			given []byte
			call  func([]byte, int) ([]byte, api.Errno)
		}{{list, Code}, {part, Alone}} {
			given := roomy(c.given)
			was := whole(given)
			first, _ := c.call(given, v)
			kept := slices.Clone(first)
			spoil(first)
			if !slices.Equal(whole(given), was) {
				t.Error("what was handed in changes with the answer")
			}
			answer, _ := c.call(given, v)
			if !slices.Equal(answer, kept) {
				t.Error("an answer changes with an earlier one")
			}
			spoil(given)
			if !slices.Equal(answer, kept) {
				t.Error("the answer changes with what was handed in")
			}
		}
	}
}

// P1 of the document

func TestNoCallPanics(t *testing.T) {
	for _, l := range append(codes(), []byte{2}, []byte{255, 254, 0}, []byte{1}, make([]byte, api.MaxBits+1)) {
		Split(l)
		for _, v := range append(noVersions(), 0, 1, 2, 3) {
			Code(l, v)
			Alone(l, v)
		}
		for v := range 4 {
			var parts [4][]byte
			parts[v] = l
			Join(parts)
		}
	}
	for _, n := range append(noVersions(), 0, 1) {
		Bits(n)
	}
}
