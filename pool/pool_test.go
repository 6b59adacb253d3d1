package pool

import (
	"math"
	"math/rand/v2"
	"slices"
	"testing"

	"shuttle/api"
	"shuttle/harq"
	"shuttle/seq"
)

// bases are numbers at both ends, at the middle, and near them.
func bases() []seq.Num {
	return []seq.Num{0, 1, 5, 1000, 32767, 32768, 32769, 65500, 65530, 65534, 65535}
}

// by is the number so far ahead of a, or before it, in ints that don't come round by themselves.
func by(a seq.Num, n int) seq.Num { return seq.Num(((int(a)+n)%65536 + 65536) % 65536) }

// far is how far a is ahead of a base, in other words.
func far(base, a seq.Num) int { return (int(a) - int(base) + 65536) % 65536 }

func noLens() []int {
	return []int{-1, -2, -64, 65, 66, 128, 1 << 32, 1<<32 + 5, -1 << 32, math.MaxInt, math.MinInt}
}

// pool is a new one of a size.
func pool(t *testing.T, size int) *Pool {
	t.Helper()
	p, e := New(size)
	if p == nil || e != api.OK {
		t.Fatalf("New(%d) = %v, %d", size, p, e)
	}
	return p
}

// give is the process that must be given.
func give(t *testing.T, p *Pool, base, a seq.Num, n int) *harq.Process {
	t.Helper()
	q, e := p.Give(base, a, n)
	if q == nil || e != api.OK {
		t.Fatalf("Give(%d, %d, %d) = %v, %d", base, a, n, q, e)
	}
	return q
}

// refuses fails unless Give answers that error, and nothing beside it.
func refuses(t *testing.T, p *Pool, base, a seq.Num, n int, want api.Errno) {
	t.Helper()
	if q, e := p.Give(base, a, n); q != nil || e != want {
		t.Fatalf("Give(%d, %d, %d) = %v, %d, want nothing and %d", base, a, n, q, e, want)
	}
}

// has fails unless just these numbers are there, in that order.
func has(t *testing.T, p *Pool, base seq.Num, want ...seq.Num) {
	t.Helper()
	if l := p.Numbers(base); !slices.Equal(l, want) || p.Len() != len(want) {
		t.Fatalf("Numbers(%d) = %v, of %d, want %v", base, l, p.Len(), want)
	}
}

// P18.1

func TestNew(t *testing.T) {
	for size := 1; size <= 16; size++ {
		has(t, pool(t, size), 0)
	}
	for _, size := range []int{0, -1, -16, 17, 18, 32, 64, 1<<32 + 1, -1 << 32, math.MaxInt, math.MinInt} {
		if p, e := New(size); p != nil || e != api.ErrArg {
			t.Errorf("New(%d) = %v, %d, want nothing and ErrArg", size, p, e)
		}
	}
}

func TestSizeOne(t *testing.T) {
	p := pool(t, 1)
	give(t, p, 0, 5, 1)
	has(t, p, 0, 5)
	give(t, p, 0, 4, 1)
	has(t, p, 0, 4)
	refuses(t, p, 0, 6, 1, api.ErrFull)
	refuses(t, p, 0, 5, 1, api.ErrFull)
	has(t, p, 0, 4)
}

func TestANewProcessIsNew(t *testing.T) {
	p := pool(t, 16)
	for _, n := range []int{0, 1, 2, 9, 63, 64} {
		q := give(t, p, 0, seq.Num(n), n)
		if q.Len() != n || q.Came() != 0 || q.Done() {
			t.Errorf("of %d bytes: %d, %d came, %v", n, q.Len(), q.Came(), q.Done())
		}
	}
	has(t, p, 0, 0, 1, 2, 9, 63, 64)
}

// The process that is there is given, whatever base and n are, and however full the pool is.
func TestTheSameProcessAgain(t *testing.T) {
	for _, size := range []int{1, 2, 16} {
		p := pool(t, size)
		var all []*harq.Process
		for i := range size {
			all = append(all, give(t, p, 10, by(10, 3*i), i))
		}
		parts, _ := harq.Versions([]byte("hi"))
		all[0].Offer(2, 1, parts[1])
		for i, want := range all {
			for _, base := range bases() {
				for _, n := range append(noLens(), 0, i, 2, 64) {
					if q := give(t, p, base, by(10, 3*i), n); q != want {
						t.Fatalf("number %d has another process", by(10, 3*i))
					}
				}
			}
			if n := all[i].Len(); i > 0 && n != i || i == 0 && n != 2 {
				t.Errorf("of %d bytes", n)
			}
		}
		if !all[0].Done() || p.Len() != size {
			t.Error("a process was changed")
		}
	}
}

// No two numbers have one process.
func TestEachNumberHasItsOwn(t *testing.T) {
	p := pool(t, 16)
	var all []*harq.Process
	for i := range 16 {
		q := give(t, p, 65530, by(65530, i), 5)
		if slices.Contains(all, q) {
			t.Fatalf("number %d has another one's process", by(65530, i))
		}
		all = append(all, q)
	}
	other := pool(t, 16)
	if q := give(t, other, 65530, 65530, 5); slices.Contains(all, q) {
		t.Error("two pools have one process")
	}
	has(t, other, 65530, 65530)
}

func TestGiveRefusesALength(t *testing.T) {
	for _, n := range noLens() {
		p := pool(t, 2)
		refuses(t, p, 10, 12, n, api.ErrLong)
		has(t, p, 10)
		give(t, p, 10, 12, 1)
		give(t, p, 10, 14, 1)
		// The length is looked for ahead of room, and where it is wrong none has to go.
		refuses(t, p, 10, 15, n, api.ErrLong)
		refuses(t, p, 10, 11, n, api.ErrLong)
		has(t, p, 10, 12, 14)
	}
}

func TestTheFarthestGoes(t *testing.T) {
	for _, base := range bases() {
		p := pool(t, 3)
		for _, n := range []int{40000, 7, 300} {
			give(t, p, base, by(base, n), 1)
		}
		has(t, p, base, by(base, 7), by(base, 300), by(base, 40000))
		for _, n := range []int{40001, 50000, 65535} {
			refuses(t, p, base, by(base, n), 1, api.ErrFull)
		}
		give(t, p, base, by(base, 39999), 1)
		has(t, p, base, by(base, 7), by(base, 300), by(base, 39999))
		give(t, p, base, by(base, 8), 1)
		has(t, p, base, by(base, 7), by(base, 8), by(base, 300))
		give(t, p, base, base, 1)
		has(t, p, base, base, by(base, 7), by(base, 8))
		refuses(t, p, base, by(base, 9), 1, api.ErrFull)
		has(t, p, base, base, by(base, 7), by(base, 8))
	}
}

// Which is the farthest hangs on the base that Give is handed, not on an earlier one.
func TestTheBaseOfThisCallCounts(t *testing.T) {
	p := pool(t, 2)
	give(t, p, 10, 12, 1)
	give(t, p, 10, 20, 1)
	// From 15 on 12 is farther ahead than 20: it comes round.
	give(t, p, 15, 16, 1)
	has(t, p, 15, 16, 20)
	has(t, p, 18, 20, 16)
	refuses(t, p, 18, 17, 1, api.ErrFull)
	give(t, p, 18, 19, 1)
	has(t, p, 18, 19, 20)
}

func TestOneThatWasGoneIsNew(t *testing.T) {
	parts, _ := harq.Versions([]byte("hi"))
	p := pool(t, 1)
	ahead := give(t, p, 0, 9, 2)
	ahead.Offer(2, 0, parts[0])
	give(t, p, 0, 8, 2)
	if p.Drop(8) != api.OK {
		t.Fatal("8 isn't there")
	}
	if q := give(t, p, 0, 9, 3); q == ahead || q.Done() || q.Came() != 0 || q.Len() != 3 {
		t.Errorf("what was gone for another one came again: %v", q)
	}
	// Who has it still may ask it: it is nobody else's.
	if !ahead.Done() || ahead.Came() != 1 || ahead.Len() != 2 {
		t.Error("a process that was gone was changed")
	}
	p.Drop(9)
	if q := give(t, p, 0, 9, 4); q.Len() != 4 || q.Came() != 0 {
		t.Error("what was dropped came again")
	}
}

func TestDrop(t *testing.T) {
	p := pool(t, 3)
	if e := p.Drop(0); e != api.ErrMiss {
		t.Errorf("of none: %d", e)
	}
	for _, a := range []seq.Num{65535, 0, 1} {
		give(t, p, 65535, a, 1)
	}
	for _, a := range []seq.Num{2, 65534, 32768} {
		if e := p.Drop(a); e != api.ErrMiss {
			t.Errorf("Drop(%d): %d, want ErrMiss", a, e)
		}
	}
	has(t, p, 65535, 65535, 0, 1)
	kept := give(t, p, 0, 1, 1)
	if e := p.Drop(0); e != api.OK {
		t.Errorf("Drop(0): %d", e)
	}
	has(t, p, 65535, 65535, 1)
	if e := p.Drop(0); e != api.ErrMiss {
		t.Errorf("Drop(0) again: %d, want ErrMiss", e)
	}
	has(t, p, 65535, 65535, 1)
	if give(t, p, 0, 1, 1) != kept {
		t.Error("another process was changed")
	}
	// There is room again.
	give(t, p, 65535, 60000, 1)
	refuses(t, p, 65535, 60001, 1, api.ErrFull)
	has(t, p, 65535, 65535, 1, 60000)
}

func TestNumbersComeRound(t *testing.T) {
	p := pool(t, 16)
	for _, a := range []seq.Num{3, 65534, 32768, 0, 32767, 65535} {
		give(t, p, 0, a, 1)
	}
	has(t, p, 0, 0, 3, 32767, 32768, 65534, 65535)
	has(t, p, 1, 3, 32767, 32768, 65534, 65535, 0)
	has(t, p, 65535, 65535, 0, 3, 32767, 32768, 65534)
	has(t, p, 65534, 65534, 65535, 0, 3, 32767, 32768)
	has(t, p, 32768, 32768, 65534, 65535, 0, 3, 32767)
	has(t, p, 32769, 65534, 65535, 0, 3, 32767, 32768)
}

func TestANilPool(t *testing.T) {
	var p *Pool
	for _, base := range bases() {
		for _, n := range append(noLens(), 0, 1, 64) {
			refuses(t, p, base, base, n, api.ErrArg)
		}
		if e := p.Drop(base); e != api.ErrArg {
			t.Errorf("Drop(%d): %d, want ErrArg", base, e)
		}
		has(t, p, base)
	}
}

// A pool that New didn't make has room for none.
func TestAnEmptyPool(t *testing.T) {
	p := &Pool{}
	for _, base := range bases() {
		refuses(t, p, base, base, 1, api.ErrFull)
		refuses(t, p, base, base, 65, api.ErrLong)
		if e := p.Drop(base); e != api.ErrMiss {
			t.Errorf("Drop(%d): %d, want ErrMiss", base, e)
		}
		has(t, p, base)
	}
}

// P18.2

// held is a number with its process, of a pool in other words: a list, gone through each time.
type held struct {
	a seq.Num
	q *harq.Process
}

// farthest is where the one stands that is the farthest ahead of a base.
func farthest(all []held, base seq.Num) int {
	at := 0
	for i, h := range all {
		if far(base, h.a) > far(base, all[at].a) {
			at = i
		}
	}
	return at
}

// nearest is the number that is the least ahead of a base.
func nearest(l []seq.Num, base seq.Num) seq.Num {
	return slices.MinFunc(l, func(a, b seq.Num) int { return far(base, a) - far(base, b) })
}

// follow has a model give a process as the pool did.
func follow(t *testing.T, all []held, size int, base, a seq.Num, n int, q *harq.Process, e api.Errno) []held {
	t.Helper()
	if at := slices.IndexFunc(all, func(h held) bool { return h.a == a }); at >= 0 {
		if q != all[at].q || e != api.OK {
			t.Fatalf("Give(%d, %d, %d) = %v, %d, want what is there", base, a, n, q, e)
		}
		return all
	}
	want := api.OK
	if n < 0 || n > 64 {
		want = api.ErrLong
	} else if len(all) == size {
		at := farthest(all, base)
		if far(base, all[at].a) > far(base, a) {
			all = slices.Delete(all, at, at+1)
		} else {
			want = api.ErrFull
		}
	}
	if e != want || (q != nil) != (want == api.OK) {
		t.Fatalf("Give(%d, %d, %d) = %v, %d, want %d", base, a, n, q, e, want)
	}
	if e != api.OK {
		return all
	}
	if slices.ContainsFunc(all, func(h held) bool { return h.q == q }) || q.Len() != n || q.Came() != 0 || q.Done() {
		t.Fatalf("Give(%d, %d, %d): it isn't new", base, a, n)
	}
	return append(all, held{a, q})
}

func TestAgainstAModel(t *testing.T) {
	chance := rand.New(rand.NewPCG(18, 1))
	for size := 1; size <= 16; size++ {
		p := pool(t, size)
		var all []held
		base := seq.Num(chance.Uint32())
		seen := map[api.Errno]int{}
		for range 4000 {
			a := by(base, chance.IntN(24)-2)
			switch chance.IntN(10) {
			case 0:
				base = by(base, chance.IntN(4))
			case 1:
				at := slices.IndexFunc(all, func(h held) bool { return h.a == a })
				want := api.ErrMiss
				if at >= 0 {
					want = api.OK
					all = slices.Delete(all, at, at+1)
				}
				if e := p.Drop(a); e != want {
					t.Fatalf("Drop(%d): %d, want %d", a, e, want)
				}
			case 2:
				a = seq.Num(chance.Uint32())
				fallthrough
			default:
				n := chance.IntN(70) - 2
				ahead := p.Numbers(base)
				q, e := p.Give(base, a, n)
				all = follow(t, all, size, base, a, n, q, e)
				if len(ahead) > 0 && far(base, nearest(ahead, base)) < far(base, a) && !slices.Contains(p.Numbers(base), nearest(ahead, base)) {
					t.Fatalf("%d, the nearest to %d, is gone for %d", nearest(ahead, base), base, a)
				}
				seen[e]++
			}
			slices.SortFunc(all, func(x, y held) int { return far(base, x.a) - far(base, y.a) })
			var want []seq.Num
			for _, h := range all {
				want = append(want, h.a)
			}
			has(t, p, base, want...)
			if p.Len() > size {
				t.Fatalf("%d of at most %d", p.Len(), size)
			}
		}
		for _, e := range []api.Errno{api.OK, api.ErrLong, api.ErrFull} {
			if seen[e] < 30 {
				t.Errorf("of size %d: %d was answered %d times alone", size, e, seen[e])
			}
		}
	}
}

// Whatever comes, and however much: never more than there may be, and the least ahead of all stays.
func TestTheLeastAheadStays(t *testing.T) {
	chance := rand.New(rand.NewPCG(18, 2))
	for size := 1; size <= 16; size++ {
		for _, base := range bases() {
			p := pool(t, size)
			least := 65536
			var kept *harq.Process
			for range 300 {
				n := chance.IntN(65536)
				q, e := p.Give(base, by(base, n), 1)
				if n < least {
					if e != api.OK {
						t.Fatalf("%d ahead was refused: %d", n, e)
					}
					least, kept = n, q
				}
				if p.Len() > size {
					t.Fatalf("%d of at most %d", p.Len(), size)
				}
				if l := p.Numbers(base); l[0] != by(base, least) {
					t.Fatalf("%d is gone: %v", by(base, least), l)
				}
				if give(t, p, base, by(base, least), 1) != kept {
					t.Fatalf("%d has another process", by(base, least))
				}
			}
			if p.Len() != size {
				t.Errorf("%d of %d", p.Len(), size)
			}
		}
	}
}

// Rules 4 and 5 of the document

func TestNumbersIsNewMemory(t *testing.T) {
	p := pool(t, 4)
	for i := range 4 {
		give(t, p, 10, by(10, i), 1)
	}
	l := p.Numbers(10)
	for all, i := l[:cap(l)], 0; i < len(all); i++ {
		all[i] = 7777
	}
	has(t, p, 10, 10, 11, 12, 13)
	l = p.Numbers(10)
	p.Drop(10)
	give(t, p, 0, 1, 1)
	if !slices.Equal(l, []seq.Num{10, 11, 12, 13}) {
		t.Errorf("a list that was answered changes: %v", l)
	}
}

// The same calls, the same answers, whatever way a pool's numbers are gone through.
func TestAnswersAreAlwaysTheSame(t *testing.T) {
	run := func() []seq.Num {
		chance := rand.New(rand.NewPCG(18, 3))
		p := pool(t, 7)
		var all []seq.Num
		for range 200 {
			base := seq.Num(chance.Uint32())
			p.Give(base, seq.Num(chance.Uint32()), 1)
			all = append(all, p.Numbers(base)...)
		}
		return all
	}
	want := run()
	for range 10 {
		if !slices.Equal(run(), want) {
			t.Fatal("another answer of the same calls")
		}
	}
}

// P1 of the document

func TestNoCallPanics(t *testing.T) {
	for _, size := range []int{math.MinInt, -1, 0, 1, 16, 17, math.MaxInt} {
		made, _ := New(size)
		for _, p := range []*Pool{nil, {}, made} {
			for _, base := range bases() {
				for _, a := range bases() {
					for _, n := range append(noLens(), 0, 1, 64) {
						p.Give(base, a, n)
					}
					p.Numbers(base)
					p.Len()
					p.Drop(a)
					p.Give(base, a, 1)
				}
			}
		}
	}
}
