package sender

import (
	"math"
	"slices"
	"testing"

	"shuttle/ackmap"
	"shuttle/api"
	"shuttle/frame"
	"shuttle/harq"
	"shuttle/rate"
	"shuttle/seq"
)

// by is the number so far ahead of a, or before it, in ints that don't come round by themselves.
func by(a seq.Num, n int) seq.Num { return seq.Num(((int(a)+n)%65536 + 65536) % 65536) }

// bases are numbers at both ends, at the middle, and near them.
func bases() []seq.Num {
	return []seq.Num{0, 1, 5, 1000, 32767, 32768, 32769, 65500, 65534, 65535}
}

// window is one of which the pool is none: a sender doesn't look at it.
func window(size, queue int) api.Window { return api.Window{Size: size, Queue: queue, Pool: -1} }

// sender is a new one.
func sender(t *testing.T, first seq.Num, size, queue int) *Sender {
	t.Helper()
	s, e := New(first, window(size, queue))
	if s == nil || e != api.OK {
		t.Fatalf("New(%d, %d, %d) = %v, %d", first, size, queue, s, e)
	}
	return s
}

// send has messages kept, which mustn't be refused.
func send(t *testing.T, s *Sender, messages ...string) {
	t.Helper()
	for _, m := range messages {
		if e := s.Send([]byte(m)); e != api.OK {
			t.Fatalf("Send(%q): %d", m, e)
		}
	}
}

// acked tells a sender what has come, which it mustn't refuse.
func acked(t *testing.T, s *Sender, base seq.Num, more uint32) {
	t.Helper()
	if e := s.Acked(ackmap.Map{Base: base, More: more}); e != api.OK {
		t.Fatalf("Acked(%d, %b): %d", base, more, e)
	}
}

// is fails unless a sender tells all that.
func is(t *testing.T, s *Sender, kept int, base seq.Num, under ...seq.Num) {
	t.Helper()
	if s.Kept() != kept || s.Base() != base || !slices.Equal(s.Under(), under) {
		t.Fatalf("%d kept from %d on, %v under way; want %d, %d, %v", s.Kept(), s.Base(), s.Under(), kept, base, under)
	}
}

// goes fails unless just these go out at the next tick: of each frame the number and the version.
func goes(t *testing.T, s *Sender, want ...[2]int) {
	t.Helper()
	ahead := s.Now()
	var got [][2]int
	for _, b := range s.Tick() {
		f, e := frame.Read(b)
		if e != api.OK || f.Kind != frame.Data {
			t.Fatalf("what goes out is no data frame: %v, %d", b, e)
		}
		got = append(got, [2]int{int(f.Seq), f.Version})
	}
	if s.Now() != ahead+1 || !slices.Equal(got, want) {
		t.Fatalf("at the tick %d: %v, want %v", s.Now(), got, want)
	}
}

// policyIs fails unless things went like that.
func policyIs(t *testing.T, s *Sender, level, run int) {
	t.Helper()
	if p := s.Policy(); p != (rate.Policy{Level: level, Run: run}) {
		t.Fatalf("the policy is %v, want {%d %d}", p, level, run)
	}
}

// raised is a sender that kept one message after the other, and each of them had three tries: so many levels more.
func raised(t *testing.T, first seq.Num, size, queue, levels int) *Sender {
	t.Helper()
	s := sender(t, by(first, -levels), size, queue)
	for range levels {
		send(t, s, "x")
		for range 7 {
			s.Tick()
		}
		acked(t, s, by(s.Base(), 1), 0)
	}
	is(t, s, 0, first)
	policyIs(t, s, min(levels, 2), 0)
	return s
}

// P23.1

func TestNew(t *testing.T) {
	for size := -2; size <= 34; size++ {
		for queue := -2; queue <= 66; queue++ {
			s, e := New(65535, window(size, queue))
			if size < 1 || size > 32 || queue < size || queue > 64 {
				if s != nil || e != api.ErrArg {
					t.Fatalf("New of %d and %d = %v, %d, want nothing and ErrArg", size, queue, s, e)
				}
				continue
			}
			if s == nil || e != api.OK || s.Now() != 0 {
				t.Fatalf("New of %d and %d = %v, %d", size, queue, s, e)
			}
			is(t, s, 0, 65535)
			policyIs(t, s, 0, 0)
		}
	}
	for _, n := range []int{1 << 32, 1<<32 + 1, -1 << 32, math.MaxInt, math.MinInt} {
		for _, w := range []api.Window{window(n, 64), window(1, n), window(n, n)} {
			if s, e := New(0, w); s != nil || e != api.ErrArg {
				t.Errorf("New of %v = %v, %d, want nothing and ErrArg", w, s, e)
			}
		}
	}
	for _, pool := range []int{math.MinInt, -1, 0, 1, 16, 17, math.MaxInt} {
		if s, e := New(0, api.Window{Size: 1, Queue: 1, Pool: pool}); s == nil || e != api.OK {
			t.Errorf("with a pool of %d: %d", pool, e)
		}
	}
}

func TestExample(t *testing.T) {
	for _, first := range bases() {
		s := sender(t, first, 1, 1)
		send(t, s, "a")
		goes(t, s, [2]int{int(first), 0})
		acked(t, s, by(first, 1), 0)
		is(t, s, 0, by(first, 1))
		policyIs(t, s, 0, 1)
	}
}

func TestSendRefusesALength(t *testing.T) {
	s := sender(t, 7, 1, 2)
	for _, n := range []int{65, 66, 128, 1 << 16} {
		if e := s.Send(make([]byte, n)); e != api.ErrLong {
			t.Errorf("of %d bytes: %d, want ErrLong", n, e)
		}
	}
	is(t, s, 0, 7)
	send(t, s, "", string(make([]byte, 64)))
	// The length is looked for ahead of room.
	if e := s.Send(make([]byte, 65)); e != api.ErrLong {
		t.Errorf("of 65 bytes, without room: %d, want ErrLong", e)
	}
	if e := s.Send(nil); e != api.ErrFull {
		t.Errorf("without room: %d, want ErrFull", e)
	}
	is(t, s, 2, 7, 7)
}

func TestEachLength(t *testing.T) {
	for n := range 65 {
		s := sender(t, 9, 1, 1)
		m := make([]byte, n)
		for i := range m {
			m[i] = byte(31*i + n)
		}
		if e := s.Send(m); e != api.OK {
			t.Fatalf("of %d bytes: %d", n, e)
		}
		l := s.Tick()
		if len(l) != 1 {
			t.Fatalf("of %d bytes: %d frames", n, len(l))
		}
		f, e := frame.Read(l[0])
		parts, _ := harq.Versions(m)
		if e != api.OK || f.Kind != frame.Data || f.Seq != 9 || f.Version != 0 || f.Len != n || !slices.Equal(f.Body, parts[0]) {
			t.Fatalf("of %d bytes: %v, %d", n, f, e)
		}
	}
}

func TestSendRefusesBeyondTheQueue(t *testing.T) {
	for _, c := range [][2]int{{1, 1}, {1, 2}, {2, 3}, {1, 64}, {32, 32}, {32, 33}, {32, 64}} {
		s := sender(t, 65535, c[0], c[1])
		for i := range c[1] {
			if e := s.Send([]byte{1}); e != api.OK || s.Kept() != i+1 || len(s.Under()) != min(i+1, c[0]) {
				t.Fatalf("of %v, message %d: %d, %d kept", c, i, e, s.Kept())
			}
		}
		for range 3 {
			if e := s.Send([]byte{1}); e != api.ErrFull || s.Kept() != c[1] {
				t.Fatalf("of %v: %d, %d kept", c, e, s.Kept())
			}
		}
		s.Tick()
		// All but the first one are acked: they count still.
		if c[1] > 1 {
			acked(t, s, 65535, math.MaxUint32>>max(0, 33-c[1]))
			if e := s.Send(nil); e != api.ErrFull || s.Kept() != c[1] {
				t.Fatalf("of %v, behind acks: %d, %d kept", c, e, s.Kept())
			}
		}
		acked(t, s, 0, 0)
		if s.Kept() == c[1] || s.Send(nil) != api.OK {
			t.Fatalf("of %v: no room behind %d kept", c, s.Kept())
		}
	}
}

// A message is tried behind 2, 4, 8, 16, 16 and so on ticks.
func TestTriesOfOneMessage(t *testing.T) {
	for level, burst := range []int{1, 2, 4} {
		s := raised(t, 3, 2, 2, level)
		start := s.Now()
		send(t, s, "m")
		sent, at := 0, 1
		for try := 1; try <= 30; try++ {
			for s.Now()-start < at-1 {
				goes(t, s)
			}
			var want [][2]int
			for range burst {
				want = append(want, [2]int{3, sent % 4})
				sent++
			}
			goes(t, s, want...)
			burst = 1
			at += []int{0, 2, 4, 8, 16}[min(try, 4)]
		}
		is(t, s, 1, 3, 3)
	}
}

func TestTheWindow(t *testing.T) {
	s := sender(t, 65534, 3, 6)
	send(t, s, "a", "b", "c", "d", "e", "f")
	is(t, s, 6, 65534, 65534, 65535, 0)
	goes(t, s, [2]int{65534, 0}, [2]int{65535, 0}, [2]int{0, 0})
	// The window begins at base: what is acked behind it makes no room.
	acked(t, s, 65534, 0b11)
	is(t, s, 6, 65534, 65534)
	goes(t, s)
	goes(t, s, [2]int{65534, 1})
	acked(t, s, 65535, 0b1)
	is(t, s, 3, 1, 1, 2, 3)
	goes(t, s, [2]int{1, 0}, [2]int{2, 0}, [2]int{3, 0})
	acked(t, s, 3, 0)
	is(t, s, 1, 3, 3)
	acked(t, s, 4, 0)
	is(t, s, 0, 4)
	for range 40 {
		goes(t, s)
	}
	send(t, s, "g")
	is(t, s, 1, 4, 4)
	goes(t, s, [2]int{4, 0})
}

// Those whose time is due, and those that had no try yet, go out by how far they are ahead, not by their plain numbers, or by how old they are.
func TestFramesRiseFromBase(t *testing.T) {
	s := sender(t, 65534, 4, 4)
	send(t, s, "a", "b")
	goes(t, s, [2]int{65534, 0}, [2]int{65535, 0})
	send(t, s, "c")
	goes(t, s, [2]int{0, 0})
	goes(t, s, [2]int{65534, 1}, [2]int{65535, 1})
	send(t, s, "d")
	goes(t, s, [2]int{0, 1}, [2]int{1, 0})
	for range 2 {
		s.Tick()
	}
	goes(t, s, [2]int{65534, 2}, [2]int{65535, 2})
	goes(t, s, [2]int{0, 2})
}

// The versions of one message stand behind each other, ahead of the next one's.
func TestBurstsBehindEachOther(t *testing.T) {
	s := raised(t, 65535, 2, 2, 2)
	send(t, s, "a", "b")
	goes(t, s, [2]int{65535, 0}, [2]int{65535, 1}, [2]int{65535, 2}, [2]int{65535, 3}, [2]int{0, 0}, [2]int{0, 1}, [2]int{0, 2}, [2]int{0, 3})
	goes(t, s)
	goes(t, s, [2]int{65535, 0}, [2]int{0, 0})
}

// The burst is that of the policy at the first try, not when the message is sent, or acked.
func TestTheBurstOfTheFirstTry(t *testing.T) {
	s := sender(t, 0, 1, 3)
	send(t, s, "a", "b", "c")
	for range 7 {
		s.Tick()
	}
	acked(t, s, 1, 0)
	policyIs(t, s, 1, 0)
	goes(t, s, [2]int{1, 0}, [2]int{1, 1})
	goes(t, s)
	goes(t, s, [2]int{1, 2})
	acked(t, s, 2, 0)
	policyIs(t, s, 1, 0)
	goes(t, s, [2]int{2, 0}, [2]int{2, 1})
}

func TestThePolicy(t *testing.T) {
	s := raised(t, 0, 1, 1, 5)
	for i := 1; i <= 12; i++ {
		send(t, s, "m")
		s.Tick()
		acked(t, s, seq.Num(i), 0)
		policyIs(t, s, []int{2, 1, 0, 0}[i/4], i%4)
	}
	// Of two tries the run alone ends.
	for range 3 {
		send(t, s, "m")
		s.Tick()
		acked(t, s, by(s.Base(), 1), 0)
	}
	policyIs(t, s, 0, 3)
	send(t, s, "m")
	for range 3 {
		s.Tick()
	}
	acked(t, s, by(s.Base(), 1), 0)
	policyIs(t, s, 0, 0)
}

// Of several that one map acks the one nearest to base counts first.
func TestThePolicyRisesFromBase(t *testing.T) {
	s := sender(t, 65535, 2, 2)
	send(t, s, "a")
	for range 6 {
		s.Tick()
	}
	send(t, s, "b")
	goes(t, s, [2]int{65535, 2}, [2]int{0, 0})
	acked(t, s, 1, 0)
	policyIs(t, s, 1, 1)
}

func TestAckedCountsOnce(t *testing.T) {
	s := sender(t, 10, 4, 4)
	send(t, s, "a", "b", "c")
	s.Tick()
	for range 5 {
		acked(t, s, 10, 0b10)
		is(t, s, 3, 10, 10, 11)
		policyIs(t, s, 0, 1)
	}
	acked(t, s, 11, 0b1)
	is(t, s, 2, 11, 11)
	policyIs(t, s, 0, 2)
	// What was acked goes with base, and isn't acked anew by that.
	acked(t, s, 13, 0)
	is(t, s, 0, 13)
	policyIs(t, s, 0, 3)
	for range 5 {
		acked(t, s, 13, 0)
	}
	policyIs(t, s, 0, 3)
}

// A map may tell more than base and those behind it: what was told once stays acked, whatever later maps tell.
func TestAckedStaysSo(t *testing.T) {
	s := sender(t, 0, 4, 4)
	send(t, s, "a", "b", "c", "d")
	s.Tick()
	acked(t, s, 0, 0b110)
	acked(t, s, 0, 0)
	is(t, s, 4, 0, 0, 1)
	s.Tick()
	goes(t, s, [2]int{0, 1}, [2]int{1, 1})
	acked(t, s, 1, 0)
	is(t, s, 3, 1, 1)
	acked(t, s, 2, 0)
	is(t, s, 0, 4)
}

// What has come without a try is acked, and goes out no more; the policy is as it was.
func TestAckedWithoutATry(t *testing.T) {
	s := sender(t, 65535, 1, 4)
	send(t, s, "a", "b", "c", "d")
	acked(t, s, 65535, 0b11)
	is(t, s, 4, 65535, 65535)
	policyIs(t, s, 0, 0)
	goes(t, s, [2]int{65535, 0})
	acked(t, s, 0, 0)
	is(t, s, 1, 2, 2)
	policyIs(t, s, 0, 1)
	goes(t, s, [2]int{2, 0})
	acked(t, s, 3, 0)
	policyIs(t, s, 0, 2)
	send(t, s, "e")
	acked(t, s, 4, 0)
	is(t, s, 0, 4)
	policyIs(t, s, 0, 2)
	for range 20 {
		goes(t, s)
	}
}

// An acked message has no time any more: none of its tries is left, also where its number comes again.
func TestAckedHasNoTime(t *testing.T) {
	s := sender(t, 0, 2, 2)
	send(t, s, "a", "b")
	s.Tick()
	acked(t, s, 0, 0b1)
	if s.times.Len() != 1 {
		t.Errorf("%d have a time", s.times.Len())
	}
	goes(t, s)
	goes(t, s, [2]int{0, 1})
	acked(t, s, 2, 0)
	if s.times.Len() != 0 {
		t.Errorf("%d have a time", s.times.Len())
	}
}

func TestAckedOfOldMaps(t *testing.T) {
	for _, first := range bases() {
		s := sender(t, first, 3, 5)
		send(t, s, "a", "b", "c", "d", "e")
		s.Tick()
		acked(t, s, by(first, 2), 0)
		for _, m := range []ackmap.Map{
			{Base: first}, {Base: by(first, 1)}, {Base: by(first, 2)}, {Base: by(first, 1), More: 0},
			{Base: first, More: 0b1}, {Base: by(first, -33), More: math.MaxUint32},
			{Base: by(first, -1000), More: math.MaxUint32}, {Base: by(first, -30000), More: math.MaxUint32},
		} {
			acked(t, s, m.Base, m.More)
			is(t, s, 3, by(first, 2), by(first, 2), by(first, 3), by(first, 4))
			policyIs(t, s, 0, 2)
		}
		// An old base that tells of one under way by More acks that one.
		acked(t, s, by(first, 1), 0b100)
		is(t, s, 3, by(first, 2), by(first, 2), by(first, 3))
		acked(t, s, by(first, -29), 1<<30)
		is(t, s, 2, by(first, 3), by(first, 3))
	}
}

func TestAckedIsFar(t *testing.T) {
	for _, first := range bases() {
		for kept := range 5 {
			s := sender(t, first, 2, 4)
			for range kept {
				send(t, s, "m")
			}
			s.Tick()
			under := s.Under()
			for _, m := range []ackmap.Map{
				{Base: by(first, kept+1)}, {Base: by(first, kept+2)}, {Base: by(first, 1000)},
				{Base: by(first, 32766)}, {Base: by(first, 32767)}, {Base: by(first, 32768)},
				{Base: by(first, 32768), More: math.MaxUint32},
				{Base: by(first, kept), More: 0b1}, {Base: by(first, kept), More: 1 << 31},
				{Base: first, More: 1 << max(kept-1, 0)}, {Base: first, More: math.MaxUint32},
				{Base: by(first, -1), More: 1 << kept}, {Base: by(first, -1), More: 1<<31 | 1},
				{Base: by(first, kept-32), More: 1 << 31}, {Base: by(first, kept-32), More: math.MaxUint32},
			} {
				if e := s.Acked(m); e != api.ErrFar {
					t.Fatalf("of %d from %d on, Acked(%d, %b): %d, want ErrFar", kept, first, m.Base, m.More, e)
				}
				is(t, s, kept, first, under...)
				policyIs(t, s, 0, 0)
			}
			// The last one kept may have come, and the number right behind it may be a map's base.
			acked(t, s, by(first, kept-33), 1<<31)
			acked(t, s, by(first, kept), 0)
			is(t, s, 0, by(first, kept))
			acked(t, s, by(first, kept), 0)
		}
	}
}

// What a map tells that is too far changes nothing, what else it tells of neither.
func TestAFarMapChangesNothing(t *testing.T) {
	s := sender(t, 100, 4, 4)
	send(t, s, "a", "b", "c")
	s.Tick()
	for _, m := range []ackmap.Map{{Base: 100, More: 0b101}, {Base: 102, More: 0b10}, {Base: 99, More: 0b1111}, {Base: 104}} {
		if e := s.Acked(m); e != api.ErrFar {
			t.Fatalf("Acked(%v): %d, want ErrFar", m, e)
		}
		is(t, s, 3, 100, 100, 101, 102)
		policyIs(t, s, 0, 0)
	}
	goes(t, s)
	goes(t, s, [2]int{100, 1}, [2]int{101, 1}, [2]int{102, 1})
}

func TestANilSender(t *testing.T) {
	var s *Sender
	for _, m := range [][]byte{nil, {1}, make([]byte, 65)} {
		if e := s.Send(m); e != api.ErrArg {
			t.Errorf("Send of %d bytes: %d, want ErrArg", len(m), e)
		}
	}
	for _, m := range []ackmap.Map{{}, {Base: 1}, {Base: 7, More: 5}} {
		if e := s.Acked(m); e != api.ErrArg {
			t.Errorf("Acked(%v): %d, want ErrArg", m, e)
		}
	}
	if l := s.Tick(); len(l) != 0 || s.Now() != 0 {
		t.Errorf("Tick() = %v, at %d", l, s.Now())
	}
	is(t, s, 0, 0)
	policyIs(t, s, 0, 0)
}

// A sender that New didn't make has room for none.
func TestAnEmptySender(t *testing.T) {
	s := &Sender{}
	if e := s.Send(nil); e != api.ErrFull {
		t.Errorf("Send: %d, want ErrFull", e)
	}
	if l := s.Tick(); len(l) != 0 {
		t.Errorf("Tick() = %v", l)
	}
	acked(t, s, 0, 0)
	if e := s.Acked(ackmap.Map{Base: 1}); e != api.ErrFar {
		t.Errorf("Acked(1): %d, want ErrFar", e)
	}
	is(t, s, 0, 0)
}

func TestSendersAreApart(t *testing.T) {
	a, b := sender(t, 0, 2, 2), sender(t, 0, 2, 2)
	send(t, a, "a")
	a.Tick()
	is(t, b, 0, 0)
	send(t, b, "b")
	if b.Now() != 0 {
		t.Errorf("the tick is %d", b.Now())
	}
	goes(t, b, [2]int{0, 0})
	acked(t, a, 1, 0)
	is(t, b, 1, 0, 0)
	policyIs(t, b, 0, 0)
}
