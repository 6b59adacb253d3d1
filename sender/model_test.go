package sender

import (
	"math"
	"math/rand/v2"
	"slices"
	"testing"

	"shuttle/ackmap"
	"shuttle/api"
	"shuttle/frame"
	"shuttle/harq"
	"shuttle/rate"
	"shuttle/seq"
)

// letter is a message of a model: it is never forgotten.
type letter struct {
	text             []byte
	tries, sent, due int
	acked            bool
}

// model is a sender in other words: all messages that were ever accepted, by plain counts that don't come round.
type model struct {
	first       seq.Num
	size, queue int
	all         []letter
	base, now   int
	policy      rate.Policy
}

func (m *model) kept() int { return len(m.all) - m.base }

// before: is one so far ahead of another one that it stands behind it, by less than half a round?
func before(ahead int) bool {
	ahead = (ahead%65536 + 65536) % 65536
	return ahead >= 1 && ahead <= 32767
}

func (m *model) send(text []byte) api.Errno {
	if len(text) > 64 {
		return api.ErrLong
	}
	if m.kept() == m.queue {
		return api.ErrFull
	}
	m.all = append(m.all, letter{text: slices.Clone(text)})
	return api.OK
}

func (m *model) under() []int {
	var l []int
	for i := m.base; i < len(m.all) && i < m.base+m.size; i++ {
		if !m.all[i].acked {
			l = append(l, i)
		}
	}
	return l
}

func (m *model) tick() [][]byte {
	m.now++
	var frames [][]byte
	for _, i := range m.under() {
		x := &m.all[i]
		if x.tries > 0 && x.due != m.now {
			continue
		}
		burst := 1
		if x.tries == 0 {
			burst = []int{1, 2, 4}[m.policy.Level]
		}
		parts, _ := harq.Versions(x.text)
		for range burst {
			v := x.sent % 4
			b, _ := frame.Write(frame.Frame{Kind: frame.Data, Seq: by(m.first, i), Version: v, Len: len(x.text), Body: parts[v]})
			frames = append(frames, b)
			x.sent++
		}
		x.tries++
		x.due = m.now + []int{0, 2, 4, 8, 16}[min(x.tries, 4)]
	}
	return frames
}

// ackedOne has one of all acked, and the policy go by it.
func (m *model) ackedOne(x *letter) {
	x.acked = true
	switch {
	case x.tries == 0:
	case x.tries == 1 && m.policy.Run == 3:
		m.policy = rate.Policy{Level: max(m.policy.Level-1, 0)}
	case x.tries == 1:
		m.policy.Run++
	case x.tries == 2:
		m.policy.Run = 0
	default:
		m.policy = rate.Policy{Level: min(m.policy.Level+1, 2)}
	}
}

func (m *model) acked(a ackmap.Map) api.Errno {
	// Of what the map tells: how far ahead of base.
	at := int(a.Base) - int(by(m.first, m.base))
	if !before(-at) && (at%65536+65536)%65536 > m.kept() {
		return api.ErrFar
	}
	for i := range 32 {
		told := at + 1 + i
		if a.More>>i&1 == 1 && !before(-told) && (told%65536+65536)%65536 >= m.kept() {
			return api.ErrFar
		}
	}
	for i := m.base; i < len(m.all); i++ {
		ahead := ((i-m.base-at)%65536 + 65536) % 65536
		come := before(-ahead) || ahead >= 1 && ahead <= 32 && a.More>>(ahead-1)&1 == 1
		if come && !m.all[i].acked {
			m.ackedOne(&m.all[i])
		}
	}
	for m.base < len(m.all) && m.all[m.base].acked {
		m.base++
	}
	return api.OK
}

// same fails unless a sender and a model tell the same.
func same(t *testing.T, s *Sender, m *model) {
	t.Helper()
	var under []seq.Num
	for _, i := range m.under() {
		under = append(under, by(m.first, i))
	}
	if s.Kept() != m.kept() || s.Base() != by(m.first, m.base) || !slices.Equal(s.Under(), under) || s.Policy() != m.policy || s.Now() != m.now {
		t.Fatalf("%d kept from %d on, %v under way, %v, at %d; want %d, %d, %v, %v, %d", s.Kept(), s.Base(), s.Under(), s.Policy(), s.Now(), m.kept(), by(m.first, m.base), under, m.policy, m.now)
	}
	if s.Kept() > m.queue || len(s.Under()) > m.size {
		t.Fatalf("%d kept of %d, %d under way of %d", s.Kept(), m.queue, len(s.Under()), m.size)
	}
}

// someMap tells something about what a model keeps, often too much, often what is old.
func someMap(chance *rand.Rand, m *model) ackmap.Map {
	base := by(m.first, m.base)
	switch chance.IntN(12) {
	case 0:
		return ackmap.Map{Base: seq.Num(chance.Uint32()), More: chance.Uint32()}
	case 1:
		return ackmap.Map{Base: by(base, 32700+chance.IntN(140)), More: chance.Uint32() & chance.Uint32()}
	case 2:
		return ackmap.Map{Base: by(base, -chance.IntN(40)), More: 1 << chance.IntN(32)}
	case 3:
		return ackmap.Map{Base: by(base, chance.IntN(m.kept()+3))}
	case 4, 5, 6:
		return ackmap.Map{Base: by(base, chance.IntN(2)), More: chance.Uint32() >> max(0, 33-m.kept()) >> chance.IntN(3)}
	}
	return ackmap.Map{Base: base, More: chance.Uint32() & chance.Uint32() >> max(0, 34-m.kept())}
}

// P23.1, P23.2

func TestAgainstAModel(t *testing.T) {
	chance := rand.New(rand.NewPCG(23, 1))
	seen := map[api.Errno]int{}
	levels := map[int]int{}
	for _, c := range [][2]int{{1, 1}, {1, 4}, {2, 3}, {4, 4}, {5, 30}, {16, 40}, {32, 32}, {32, 64}} {
		for _, first := range []seq.Num{0, 32768, 65400, 65535} {
			s := sender(t, first, c[0], c[1])
			m := &model{first: first, size: c[0], queue: c[1]}
			for step := range 1500 {
				// Now and then no ack comes for long, so that there are many tries.
				quiet := step/150%3 == 1
				switch x := chance.IntN(10); {
				case x < 4:
					text := make([]byte, chance.IntN(70))
					got, want := s.Send(text), m.send(text)
					if got != want {
						t.Fatalf("Send of %d bytes: %d, want %d", len(text), got, want)
					}
					seen[got]++
				case x < 7 || quiet:
					got, want := s.Tick(), m.tick()
					if !slices.EqualFunc(got, want, slices.Equal) {
						t.Fatalf("at the tick %d: %d frames, want %d: %v, want %v", m.now, len(got), len(want), got, want)
					}
				default:
					a := someMap(chance, m)
					got, want := s.Acked(a), m.acked(a)
					if got != want {
						t.Fatalf("Acked(%d, %b) of %d from %d on: %d, want %d", a.Base, a.More, s.Kept(), s.Base(), got, want)
					}
					seen[got]++
				}
				same(t, s, m)
				levels[s.Policy().Level]++
			}
		}
	}
	for _, e := range []api.Errno{api.OK, api.ErrLong, api.ErrFull, api.ErrFar} {
		if seen[e] < 300 {
			t.Errorf("%d was answered %d times alone", e, seen[e])
		}
	}
	for level := range 3 {
		if levels[level] < 300 {
			t.Errorf("the level was %d in %d steps alone", level, levels[level])
		}
	}
}

// P23.2

// Whatever is acked, and whenever: who is under way has a try at the next tick, and at least each 16 behind.
func TestATryAtLeastEachMaxWait(t *testing.T) {
	chance := rand.New(rand.NewPCG(23, 2))
	for _, c := range [][2]int{{1, 3}, {7, 20}, {32, 64}} {
		s := sender(t, 65500, c[0], c[1])
		last := map[seq.Num]int{}
		for range 3000 {
			s.Send([]byte("m"))
			was := map[seq.Num]bool{}
			for _, a := range s.Under() {
				was[a] = true
			}
			for a := range last {
				if !was[a] {
					delete(last, a)
				}
			}
			for _, b := range s.Tick() {
				f, _ := frame.Read(b)
				if !was[f.Seq] {
					t.Fatalf("%d goes out, and isn't under way", f.Seq)
				}
				last[f.Seq] = s.Now()
			}
			for a := range was {
				if at, there := last[a]; !there || s.Now()-at >= 16 {
					t.Fatalf("at the tick %d the last try of %d is that of %d, %v", s.Now(), a, at, there)
				}
			}
			if chance.IntN(20) == 0 {
				s.Acked(ackmap.Map{Base: s.Base(), More: chance.Uint32() >> max(0, 33-s.Kept())})
			}
			if chance.IntN(60) == 0 {
				s.Acked(ackmap.Map{Base: by(s.Base(), 1)})
			}
		}
	}
}

// Numbers come round, more than once, and nothing of an earlier round is left.
func TestNumbersComeRound(t *testing.T) {
	s := sender(t, 40000, 32, 64)
	want := 0
	for i := 0; i < 140000; {
		for s.Kept() < 32 {
			send(t, s, string([]byte{byte(i), byte(i >> 8), byte(i >> 16)}))
			i++
		}
		for _, b := range s.Tick() {
			// The sum of the head is all that is looked at here: reading bodies takes long.
			if a := seq.Num(b[2])<<8 | seq.Num(b[3]); a != by(40000, want) || b[0] != 0x10 {
				t.Fatalf("%v goes out, want number %d, version 0", b[:6], by(40000, want))
			}
			want++
		}
		acked(t, s, by(s.Base(), 32), 0)
		if s.times.Len() != 0 {
			t.Fatalf("%d have a time", s.times.Len())
		}
	}
	if want < 140000 {
		t.Errorf("%d went out", want)
	}
}

// P23.3

func TestSendKeepsNoArgument(t *testing.T) {
	s, other := sender(t, 0, 2, 2), sender(t, 0, 2, 2)
	room := []byte("hello, there")
	for _, x := range []*Sender{s, other} {
		if e := x.Send(room[:5]); e != api.OK || string(room) != "hello, there" {
			t.Fatalf("%d, %q", e, room)
		}
	}
	clear(room)
	send(t, other, "x")
	for range 20 {
		other.Tick()
	}
	m := &model{size: 2, queue: 2}
	m.send([]byte("hello"))
	for range 40 {
		if got, want := s.Tick(), m.tick(); !slices.EqualFunc(got, want, slices.Equal) {
			t.Fatalf("at the tick %d: %v, want %v", m.now, got, want)
		}
	}
	if !slices.Equal(room, make([]byte, len(room))) {
		t.Errorf("what was handed in was changed: %v", room)
	}
}

func TestAnswersAreNewMemory(t *testing.T) {
	s := raised(t, 0, 3, 3, 2)
	m := &model{first: 0, size: 3, queue: 3, policy: s.Policy(), now: s.Now()}
	for _, text := range []string{"", "ab", "abc"} {
		send(t, s, text)
		m.send([]byte(text))
	}
	var kept [][][]byte
	var wanted [][][]byte
	for range 40 {
		under := s.Under()
		for all, i := under[:cap(under)], 0; i < len(all); i++ {
			all[i] = 7777
		}
		got, want := s.Tick(), m.tick()
		if !slices.EqualFunc(got, want, slices.Equal) {
			t.Fatalf("at the tick %d: %v, want %v", m.now, got, want)
		}
		kept, wanted = append(kept, got), append(wanted, want)
	}
	// Each list is written over to the end of its room, and no other one changes.
	for i := range kept {
		for j := range kept[i] {
			if !slices.Equal(kept[i][j], wanted[i][j]) {
				t.Fatalf("frame %d of answer %d was changed", j, i)
			}
			all := kept[i][j][:cap(kept[i][j])]
			for k := range all {
				all[k] = 99
			}
		}
		for all, j := kept[i][:cap(kept[i])], 0; j < len(all); j++ {
			all[j] = nil
		}
	}
	same(t, s, m)
	for range 40 {
		if got, want := s.Tick(), m.tick(); !slices.EqualFunc(got, want, slices.Equal) {
			t.Fatalf("at the tick %d: %v, want %v", m.now, got, want)
		}
	}
}

// Rule 5 of the document: the same calls, the same answers.
func TestAnswersAreAlwaysTheSame(t *testing.T) {
	run := func() []byte {
		chance := rand.New(rand.NewPCG(23, 3))
		s := sender(t, 65500, 32, 64)
		var all []byte
		for range 150 {
			s.Send([]byte{byte(chance.Uint32())})
			s.Send([]byte{byte(chance.Uint32())})
			for _, b := range s.Tick() {
				all = append(all, b...)
			}
			all = append(all, byte(s.Acked(ackmap.Map{Base: by(s.Base(), chance.IntN(2)), More: chance.Uint32() >> max(0, 34-s.Kept())})))
		}
		return all
	}
	want := run()
	for range 5 {
		if !slices.Equal(run(), want) {
			t.Fatal("another answer of the same calls")
		}
	}
}

// P1 of the document

func TestNoCallPanics(t *testing.T) {
	chance := rand.New(rand.NewPCG(23, 4))
	var all []*Sender
	for _, size := range []int{math.MinInt, -1, 0, 1, 2, 32, 33, math.MaxInt} {
		for _, queue := range []int{math.MinInt, 0, 1, 2, 32, 64, 65, math.MaxInt} {
			made, _ := New(seq.Num(chance.Uint32()), window(size, queue))
			all = append(all, made)
		}
	}
	for _, s := range append(all, &Sender{}) {
		for range 300 {
			s.Send(make([]byte, chance.IntN(70)))
			if chance.IntN(3) == 0 {
				s.Tick()
			}
			s.Acked(ackmap.Map{Base: seq.Num(chance.Uint32()), More: chance.Uint32()})
			s.Acked(ackmap.Map{Base: by(s.Base(), chance.IntN(80)-40), More: chance.Uint32() >> chance.IntN(32)})
			s.Kept()
			s.Base()
			s.Under()
			s.Policy()
			s.Now()
		}
	}
}
