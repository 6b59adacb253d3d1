package combine

import (
	"math"
	"math/rand/v2"
	"slices"
	"testing"

	"shuttle/api"
	"shuttle/conv"
	"shuttle/distance"
	"shuttle/pattern"
	"shuttle/version"
	"shuttle/viterbi"
)

// some is n bits, other ones for each n and each seed.
func some(n int, seed uint64) []byte {
	chance := rand.New(rand.NewPCG(uint64(n), seed))
	l := make([]byte, n)
	for i := range l {
		l[i] = byte(chance.Uint32() & 1)
	}
	return l
}

// buffer is a new one for n bits.
func buffer(t *testing.T, n int) *Buffer {
	t.Helper()
	b, e := New(n)
	if b == nil || e != api.OK {
		t.Fatalf("New(%d) = %v, %d", n, b, e)
	}
	return b
}

// add has a version come that must be taken.
func add(t *testing.T, b *Buffer, v int, part []byte) {
	t.Helper()
	if e := b.Add(v, part); e != api.OK {
		t.Fatalf("Add(%d, %v): %d", v, part, e)
	}
}

// part is a version of a list that has one.
func part(l []byte, v int) []byte {
	p, _ := version.Code(l, v)
	return p
}

// told fails unless Decode answers that list.
func told(t *testing.T, b *Buffer, want []byte) {
	t.Helper()
	if got, e := b.Decode(); !slices.Equal(got, want) || e != api.OK {
		t.Fatalf("Decode of %v = %v, %d, want %v", b.Counts(), got, e, want)
	}
}

// blank fails unless nothing came, of n bits.
func blank(t *testing.T, b *Buffer, n int) {
	t.Helper()
	if got := b.Soft(); !slices.Equal(got, make([]int, 4*(n+6))) {
		t.Errorf("of %d bits: %v, want noughts", n, got)
	}
	if b.Counts() != [4]int{} || b.Bits() != n {
		t.Errorf("of %d bits: %v of %d", n, b.Counts(), b.Bits())
	}
	told(t, b, make([]byte, n))
}

// sight is all that a buffer tells.
type sight struct {
	soft   []int
	counts [4]int
	bits   int
	list   []byte
}

func see(b *Buffer) sight {
	list, _ := b.Decode()
	return sight{b.Soft(), b.Counts(), b.Bits(), list}
}

// like fails unless a buffer tells what one told.
func like(t *testing.T, b *Buffer, want sight) {
	t.Helper()
	got := see(b)
	if !slices.Equal(got.soft, want.soft) || got.counts != want.counts || got.bits != want.bits || !slices.Equal(got.list, want.list) {
		t.Fatalf("%v, want %v", got, want)
	}
}

// come is a version that came, with its bits.
type come struct {
	v    int
	part []byte
}

// sums is the numbers in other words: at each place the noughts less the ones that came for it,
// one behind the other, never beyond 31.
func sums(n int, came []come) []int {
	l := make([]int, 4*(n+6))
	for _, c := range came {
		for step, b := range c.part {
			at := 4*step + (c.v+step)%4
			l[at] = max(-31, min(31, l[at]+1-2*int(b)))
		}
	}
	return l
}

// noVersions are numbers that are no version's.
func noVersions() []int {
	return []int{-1, -2, -4, -5, 4, 5, 8, 1 << 32, -1 << 32, math.MaxInt, math.MinInt}
}

// roomy is l with spare room behind it that holds marks, so that a write into that room shows.
func roomy(l []byte) []byte {
	return append(slices.Clone(l), 99, 98, 97, 96, 95, 94, 93, 92)[:len(l)]
}

// whole is l and its spare room.
func whole(l []byte) []byte { return slices.Clone(l[:cap(l)]) }

// P13.1

func TestNew(t *testing.T) {
	for _, n := range []int{0, 1, 2, 3, 8, 544, 4095, 4096} {
		blank(t, buffer(t, n), n)
	}
	for _, n := range []int{-1, -2, -6, -7, -4096, 4097, 4098, 1 << 14, 1 << 16, 1 << 32, math.MaxInt, math.MinInt} {
		if b, e := New(n); b != nil || e != api.ErrArg {
			t.Errorf("New(%d) = %v, %d, want nothing and ErrArg", n, b, e)
		}
	}
}

func TestAllFourVersionsTellTheList(t *testing.T) {
	for _, list := range [][]byte{nil, {0}, {1}, {1, 0, 1}, some(8, 1), some(100, 1), some(544, 1), some(4096, 1)} {
		b := buffer(t, len(list))
		for v := range 4 {
			add(t, b, v, part(list, v))
		}
		told(t, b, list)
		if b.Counts() != [4]int{1, 1, 1, 1} || b.Bits() != len(list) {
			t.Errorf("%v of %d", b.Counts(), b.Bits())
		}
		// All of them once: the numbers are those of the code itself.
		code, _ := conv.Code(list)
		for i, n := range b.Soft() {
			if n != 1-2*int(code[i]) {
				t.Fatalf("%d at %d, where %d is coded", n, i, code[i])
			}
		}
	}
}

func TestAddChangesTheVersionsPlacesAlone(t *testing.T) {
	for v := range 4 {
		b := buffer(t, 5)
		p := some(11, uint64(v))
		add(t, b, v, p)
		want := make([]int, 44)
		places, _ := pattern.Places(v, 11)
		for step, at := range places {
			want[at] = 1 - 2*int(p[step])
		}
		var counts [4]int
		counts[v] = 1
		if !slices.Equal(b.Soft(), want) || b.Counts() != counts || b.Bits() != 5 {
			t.Errorf("of version %d: %v, %v, want %v", v, b.Soft(), b.Counts(), want)
		}
	}
}

// Whatever bits come, versions of a code or not, and however often.
func TestTheNumbersAreSums(t *testing.T) {
	chance := rand.New(rand.NewPCG(13, 1))
	for _, n := range []int{0, 1, 7, 30} {
		b := buffer(t, n)
		var came []come
		var counts [4]int
		for i := range 300 {
			c := come{chance.IntN(4), some(n+6, chance.Uint64())}
			if i > 150 {
				// The same bits again and again come to the bound.
				c.part = some(n+6, 2)
			}
			add(t, b, c.v, c.part)
			came = append(came, c)
			counts[c.v]++
			if got, want := b.Soft(), sums(n, came); !slices.Equal(got, want) || b.Counts() != counts {
				t.Fatalf("behind %d: %v, %v, want %v, %v", i, got, b.Counts(), want, counts)
			}
			want, _, _ := viterbi.Decode(sums(n, came))
			told(t, b, want)
		}
	}
}

func TestMoreThan31Times(t *testing.T) {
	list := []byte{1, 0, 0, 1}
	b := buffer(t, 4)
	for i := 1; i <= 100; i++ {
		add(t, b, 2, part(list, 2))
		places, _ := pattern.Places(2, 10)
		for step, at := range places {
			if want := min(i, 31) * (1 - 2*int(part(list, 2)[step])); b.Soft()[at] != want {
				t.Fatalf("behind %d: %d, want %d", i, b.Soft()[at], want)
			}
		}
		if b.Counts() != [4]int{0, 0, i, 0} {
			t.Fatalf("behind %d: %v", i, b.Counts())
		}
		told(t, b, list)
	}
	// From the bound it goes back at once.
	turned := part(list, 2)
	turned[3] ^= 1
	was := b.Soft()
	add(t, b, 2, turned)
	at := 4*3 + 1
	if b.Soft()[at] != was[at]+1-2*int(turned[3]) || max(b.Soft()[at], -b.Soft()[at]) != 30 || b.Counts()[2] != 101 {
		t.Errorf("%d, ahead %d, %v", b.Soft()[at], was[at], b.Counts())
	}
}

func TestAddRefuses(t *testing.T) {
	list := some(9, 3)
	b := buffer(t, 9)
	add(t, b, 1, part(list, 1))
	was := see(b)
	refused := func(v int, p []byte, want api.Errno) {
		t.Helper()
		if e := b.Add(v, p); e != want {
			t.Errorf("Add(%d, %v): %d, want %d", v, p, e, want)
		}
		like(t, b, was)
	}
	right := part(list, 0)
	wrong := slices.Clone(right)
	wrong[14] = 2
	for v := range 4 {
		for at := range 15 {
			for _, x := range []byte{2, 3, 128, 255} {
				p := slices.Clone(right)
				p[at] = x
				refused(v, p, api.ErrField)
			}
		}
		refused(v, nil, api.ErrForm)
		refused(v, []byte{}, api.ErrForm)
		refused(v, right[:14], api.ErrForm)
		refused(v, append(slices.Clone(right), 0), api.ErrForm)
		refused(v, make([]byte, 60), api.ErrForm)
		// That they aren't bits is looked for ahead of how many they are.
		refused(v, wrong[1:], api.ErrField)
		refused(v, append(slices.Clone(wrong), 0), api.ErrField)
	}
	for _, v := range noVersions() {
		// The version is looked for ahead of all else.
		for _, p := range [][]byte{right, nil, right[1:], wrong, wrong[1:]} {
			refused(v, p, api.ErrArg)
		}
	}
}

func TestAddNeedsAsManyBitsAsAVersionHas(t *testing.T) {
	for _, n := range []int{0, 1, 2, 10} {
		for count := range 20 {
			b := buffer(t, n)
			want := api.ErrForm
			if count == n+6 {
				want = api.OK
			}
			if e := b.Add(3, make([]byte, count)); e != want {
				t.Errorf("%d bits, of a code of %d: %d, want %d", count, n, e, want)
			}
		}
	}
	b := buffer(t, 4096)
	for _, count := range []int{4096, 4101, 4103, 4 * 4102} {
		if e := b.Add(0, make([]byte, count)); e != api.ErrForm {
			t.Errorf("%d bits, of a code of 4096: %d, want ErrForm", count, e)
		}
	}
	add(t, b, 0, make([]byte, 4102))
}

func TestReset(t *testing.T) {
	list, other := some(20, 4), some(20, 5)
	b := buffer(t, 20)
	b.Reset()
	blank(t, b, 20)
	for range 40 {
		for v := range 4 {
			add(t, b, v, part(list, v))
		}
	}
	told(t, b, list)
	b.Reset()
	blank(t, b, 20)
	b.Reset()
	blank(t, b, 20)
	// What comes behind it stands alone.
	add(t, b, 3, part(other, 3))
	told(t, b, other)
	if !slices.Equal(b.Soft(), sums(20, []come{{3, part(other, 3)}})) || b.Counts() != [4]int{0, 0, 0, 1} {
		t.Errorf("%v, %v", b.Soft(), b.Counts())
	}
}

func TestDecodeIsThatOfTheNumbers(t *testing.T) {
	chance := rand.New(rand.NewPCG(13, 2))
	for range 100 {
		n := chance.IntN(30)
		b := buffer(t, n)
		for range chance.IntN(6) {
			add(t, b, chance.IntN(4), some(n+6, chance.Uint64()))
		}
		was := see(b)
		want, _, _ := viterbi.Decode(b.Soft())
		told(t, b, want)
		like(t, b, was)
	}
}

func TestANilBuffer(t *testing.T) {
	var b *Buffer
	for _, v := range append(noVersions(), 0, 1, 2, 3) {
		for _, p := range [][]byte{nil, {}, make([]byte, 6), {2}, make([]byte, 5)} {
			if e := b.Add(v, p); e != api.ErrArg {
				t.Errorf("Add(%d, %v): %d, want ErrArg", v, p, e)
			}
		}
	}
	b.Reset()
	if got := b.Soft(); len(got) != 0 {
		t.Errorf("Soft() = %v, want nothing", got)
	}
	if got := b.Counts(); got != [4]int{} {
		t.Errorf("Counts() = %v, want noughts", got)
	}
	if got := b.Bits(); got != 0 {
		t.Errorf("Bits() = %d, want 0", got)
	}
	if got, e := b.Decode(); len(got) != 0 || e != api.ErrArg {
		t.Errorf("Decode() = %v, %d, want nothing and ErrArg", got, e)
	}
}

// A buffer that New didn't make is as one of no bits.
func TestAnEmptyBuffer(t *testing.T) {
	b := &Buffer{}
	blank(t, b, 0)
	b.Reset()
	for v := range 4 {
		add(t, b, v, []byte{0, 1, 0, 0, 1, 1})
	}
	if e := b.Add(0, make([]byte, 7)); e != api.ErrForm {
		t.Errorf("seven bits: %d", e)
	}
	told(t, b, nil)
	b.Reset()
	blank(t, b, 0)
}

// P13.2

func TestInWhateverOrder(t *testing.T) {
	chance := rand.New(rand.NewPCG(13, 3))
	for _, times := range []int{1, 2, 7, 31} {
		for range 10 {
			n := chance.IntN(40)
			var came []come
			for v := range 4 {
				for range chance.IntN(times + 1) {
					came = append(came, come{v, some(n+6, chance.Uint64())})
				}
			}
			// The same bits 31 times come to the bound, and not beyond.
			if times == 31 {
				came = slices.DeleteFunc(came, func(c come) bool { return c.v == 2 })
				came = append(came, slices.Repeat([]come{{2, some(n+6, 6)}}, 31)...)
			}
			b := buffer(t, n)
			for _, c := range came {
				add(t, b, c.v, c.part)
			}
			was := see(b)
			for range 5 {
				chance.Shuffle(len(came), func(i, j int) { came[i], came[j] = came[j], came[i] })
				other := buffer(t, n)
				for _, c := range came {
					add(t, other, c.v, c.part)
				}
				like(t, other, was)
			}
		}
	}
}

func TestInEachOrderOfFour(t *testing.T) {
	list := some(12, 7)
	var want sight
	for x := range 256 {
		order := []int{x % 4, x / 4 % 4, x / 16 % 4, x / 64}
		if sorted := slices.Sorted(slices.Values(order)); !slices.Equal(sorted, []int{0, 1, 2, 3}) {
			continue
		}
		b := buffer(t, 12)
		for _, v := range order {
			add(t, b, v, part(list, v))
		}
		if want.soft == nil {
			want = see(b)
		}
		like(t, b, want)
		told(t, b, list)
	}
}

// 31 times each way: none of the places is clipped on the way, in whatever order.
func TestThirtyOneTimesEitherWay(t *testing.T) {
	ones := slices.Repeat([]byte{1}, 8)
	noughts := make([]byte, 8)
	b, other := buffer(t, 2), buffer(t, 2)
	for i := range 31 {
		if i < 15 {
			add(t, b, 1, ones)
		} else {
			add(t, b, 1, noughts)
		}
	}
	for i := range 31 {
		if i < 16 {
			add(t, other, 1, noughts)
		} else {
			add(t, other, 1, ones)
		}
	}
	like(t, b, see(other))
	places, _ := pattern.Places(1, 8)
	for _, at := range places {
		if b.Soft()[at] != 1 {
			t.Errorf("%d at %d, want 1", b.Soft()[at], at)
		}
	}
}

// P13.3

// all is what comes of a list when each version comes so often.
func all(list []byte, counts [4]int) []come {
	var came []come
	for v, n := range counts {
		for range n {
			came = append(came, come{v, part(list, v)})
		}
	}
	return came
}

// turn turns k bits of what came, anywhere.
func turn(chance *rand.Rand, came []come, k int) {
	steps := len(came[0].part)
	for _, x := range chance.Perm(len(came) * steps)[:k] {
		came[x/steps].part[x%steps] ^= 1
	}
}

// turnTowards turns k bits of what came, where another list's version has another bit.
func turnTowards(t *testing.T, chance *rand.Rand, came []come, other []byte, k int) {
	t.Helper()
	var unlike [][2]int
	for i, c := range came {
		theirs := part(other, c.v)
		for step := range c.part {
			if c.part[step] != theirs[step] {
				unlike = append(unlike, [2]int{i, step})
			}
		}
	}
	if len(unlike) < k {
		t.Fatalf("only %d bits are unlike", len(unlike))
	}
	for _, x := range chance.Perm(len(unlike))[:k] {
		came[unlike[x][0]].part[unlike[x][1]] ^= 1
	}
}

// holds fails unless the list is told of what came, in some order.
func holds(t *testing.T, chance *rand.Rand, list []byte, came []come) {
	t.Helper()
	b := buffer(t, len(list))
	for _, i := range chance.Perm(len(came)) {
		add(t, b, came[i].v, came[i].part)
	}
	told(t, b, list)
}

// counts are how often versions come: each alone, some together, few and many times.
func counts() [][4]int {
	all := [][4]int{{7, 7, 7, 7}, {1, 2, 3, 4}, {7, 1, 0, 0}, {0, 7, 0, 1}, {6, 0, 5, 0}, {0, 3, 3, 7}}
	for set := 1; set < 16; set++ {
		for _, n := range []int{1, 2, 7} {
			all = append(all, [4]int{set & 1 * n, set >> 1 & 1 * n, set >> 2 & 1 * n, set >> 3 & 1 * n})
		}
	}
	return all
}

func TestAsManyTurnedAsMendsSays(t *testing.T) {
	chance := rand.New(rand.NewPCG(13, 4))
	for _, w := range counts() {
		mends, _ := distance.Mends(w)
		for _, n := range []int{0, 1, 2, 9, 60} {
			for _, k := range []int{0, mends / 2, mends} {
				list := some(n, chance.Uint64())
				came := all(list, w)
				turn(chance, came, k)
				holds(t, chance, list, came)
			}
		}
	}
	for _, n := range []int{544, 4096} {
		list := some(n, 8)
		for _, w := range [][4]int{{1, 0, 0, 0}, {1, 1, 0, 0}, {1, 1, 1, 1}, {2, 0, 1, 3}} {
			mends, _ := distance.Mends(w)
			came := all(list, w)
			turn(chance, came, mends)
			holds(t, chance, list, came)
		}
	}
}

// All turned bits stand at the same few places: each time that a version comes it is turned
// there, till there are no more to turn.
func TestAsManyTurnedSideBySide(t *testing.T) {
	chance := rand.New(rand.NewPCG(13, 5))
	for _, w := range counts() {
		mends, _ := distance.Mends(w)
		for range 10 {
			list := some(25, chance.Uint64())
			came := all(list, w)
			left := mends
			for step := chance.IntN(25); left > 0 && step < 31; step++ {
				for i := range came {
					if left > 0 {
						came[i].part[step] ^= 1
						left--
					}
				}
			}
			holds(t, chance, list, came)
		}
	}
}

// apart is at how many bits of what came of them two lists are unlike.
func apart(a, b []byte, w [4]int) int {
	sum := 0
	for v, n := range w {
		ours, theirs := part(a, v), part(b, v)
		for step := range ours {
			if ours[step] != theirs[step] {
				sum += n
			}
		}
	}
	return sum
}

// nearest is, of the lists that are unlike a in up to ten bits behind each other, the nearest one
// by the versions that came, and how near it is.
func nearest(a []byte, w [4]int) ([]byte, int) {
	var best []byte
	least := math.MaxInt
	for start := range 4 {
		for x := 1; x < 1<<10; x += 2 {
			b := slices.Clone(a)
			for i := range 10 {
				b[start+i] ^= byte(x >> i & 1)
			}
			if n := apart(a, b, w); n < least {
				best, least = b, n
			}
		}
	}
	return best, least
}

// The worst that can be turned is what makes a list more like the nearest other one.
func TestAsManyTurnedTowardsTheNearest(t *testing.T) {
	chance := rand.New(rand.NewPCG(13, 6))
	tight := 0
	for _, w := range [][4]int{{1, 0, 0, 0}, {0, 0, 7, 0}, {1, 1, 0, 0}, {0, 1, 0, 1}, {1, 1, 0, 1}, {1, 1, 1, 1}, {2, 1, 3, 1}, {5, 6, 0, 7}, {7, 7, 7, 7}} {
		mends, _ := distance.Mends(w)
		least, _ := distance.Least(w)
		list := some(16, chance.Uint64())
		other, near := nearest(list, w)
		if near < least {
			t.Fatalf("%v: %d apart, below %d", w, near, least)
		}
		for range 10 {
			came := all(list, w)
			turnTowards(t, chance, came, other, mends)
			holds(t, chance, list, came)
		}
		if near != least {
			continue
		}
		// Mends is no less than it could be: with more than half turned the list isn't told.
		tight++
		came := all(list, w)
		turnTowards(t, chance, came, other, least/2+1)
		b := buffer(t, 16)
		for _, c := range came {
			add(t, b, c.v, c.part)
		}
		if got, e := b.Decode(); slices.Equal(got, list) || e != api.OK {
			t.Errorf("%v: the list is told though more than half is turned (%d)", w, e)
		}
	}
	if tight < 6 {
		t.Errorf("only %d were as near as can be", tight)
	}
}

// P13.4

func TestNothingHandedInIsChangedOrKept(t *testing.T) {
	b := buffer(t, 10)
	for _, p := range [][]byte{some(16, 9), some(15, 9), {2}, {}} {
		for v := -1; v < 5; v++ {
			p := roomy(p)
			was := whole(p)
			b.Add(v, p)
			if !slices.Equal(whole(p), was) {
				t.Errorf("%v, want %v", whole(p), was)
			}
			seen := see(b)
			for i := range p {
				p[i] ^= 1
			}
			like(t, b, seen)
			b.Soft()
			b.Counts()
			b.Decode()
			for i := range p {
				p[i] ^= 1
			}
			if !slices.Equal(whole(p), was) {
				t.Errorf("%v, want %v", whole(p), was)
			}
		}
	}
}

func TestAnswersAreNewMemory(t *testing.T) {
	b := buffer(t, 10)
	for i := range 3 {
		// As new, with a version in it, and as new again.
		was := see(b)
		soft := b.Soft()
		list, _ := b.Decode()
		for all, i := soft[:cap(soft)], 0; i < len(all); i++ {
			all[i] = 77
		}
		for all, i := list[:cap(list)], 0; i < len(all); i++ {
			all[i] = 77
		}
		counts := b.Counts()
		counts[2] = 77
		like(t, b, was)
		// An answer stays as it is, whatever comes later.
		soft = b.Soft()
		list, _ = b.Decode()
		kept, keptList := slices.Clone(soft), slices.Clone(list)
		add(t, b, i, part(some(10, 10), i))
		b.Decode()
		if !slices.Equal(soft, kept) || !slices.Equal(list, keptList) {
			t.Error("an answer changes with what comes later")
		}
		if i == 1 {
			b.Reset()
			if !slices.Equal(soft, kept) || !slices.Equal(list, keptList) {
				t.Error("an answer changes with Reset")
			}
		}
	}
}

func TestBuffersShareNothing(t *testing.T) {
	list, other := some(10, 11), some(10, 12)
	a, b := buffer(t, 10), buffer(t, 10)
	for v := range 4 {
		add(t, a, v, part(list, v))
	}
	blank(t, b, 10)
	was := see(a)
	for v := range 4 {
		add(t, b, v, part(other, v))
	}
	like(t, a, was)
	told(t, b, other)
	a.Reset()
	told(t, b, other)
	blank(t, a, 10)
}

// P1 of the document

func TestNoCallPanics(t *testing.T) {
	buffers := []*Buffer{nil, {}}
	for _, n := range []int{math.MinInt, -7, -1, 0, 1, 4096, 4097, math.MaxInt} {
		b, _ := New(n)
		buffers = append(buffers, b)
	}
	for _, b := range buffers {
		for _, v := range append(noVersions(), 0, 1, 2, 3) {
			for _, count := range []int{0, 1, 6, 7, 4096, 4102, 4103, api.MaxBits + 1} {
				b.Add(v, make([]byte, count))
				b.Add(v, slices.Repeat([]byte{255}, count))
			}
		}
		for range 2 {
			b.Soft()
			b.Counts()
			b.Bits()
			b.Decode()
			b.Reset()
		}
	}
}
