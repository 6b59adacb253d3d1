package receiver

import (
	"bytes"
	"math"
	"math/rand/v2"
	"slices"
	"testing"

	"shuttle/ackmap"
	"shuttle/api"
	"shuttle/frame"
	"shuttle/harq"
	"shuttle/sender"
	"shuttle/seq"
)

// held is a process of a model, by the plain count of its message.
type held struct {
	i int
	p *harq.Process
}

// model is a receiver in other words: plain counts that don't come round, and lists that are gone through each time.
type model struct {
	first      seq.Num
	size, pool int
	come       map[int][]byte
	base       int
	polled     int
	held       []held
}

// process is that of a message, as a pool gives it.
func (m *model) process(i, n int) (*harq.Process, api.Errno) {
	far := 0
	for k, h := range m.held {
		if h.i == i {
			return h.p, api.OK
		}
		if h.i > m.held[far].i {
			far = k
		}
	}
	p, e := harq.New(n)
	if e != api.OK {
		return nil, e
	}
	if len(m.held) == m.pool {
		if m.held[far].i < i {
			return nil, api.ErrFull
		}
		m.held = slices.Delete(m.held, far, far+1)
	}
	m.held = append(m.held, held{i, p})
	return p, api.OK
}

// data has the frame of message i come.
func (m *model) data(i int, f frame.Frame) (bool, api.Errno) {
	if f.Kind != 1 {
		return false, api.ErrKind
	}
	if _, there := m.come[i]; there || i < m.base {
		return false, api.ErrOld
	}
	if i >= m.base+m.size {
		return false, api.ErrFar
	}
	p, e := m.process(i, f.Len)
	if e != api.OK {
		return false, e
	}
	message, e := p.Offer(f.Len, f.Version, f.Body)
	if e != api.OK {
		return false, e
	}
	m.come[i] = message
	m.held = slices.DeleteFunc(m.held, func(h held) bool { return h.i == i })
	for m.has(m.base) {
		m.base++
	}
	return true, api.OK
}

func (m *model) has(i int) bool {
	_, there := m.come[i]
	return there
}

func (m *model) poll() ([]byte, bool) {
	if m.polled == m.base {
		return nil, false
	}
	m.polled++
	return m.come[m.polled-1], true
}

// same fails unless a receiver and a model tell the same.
func same(t *testing.T, r *Receiver, m *model) {
	t.Helper()
	want := ackmap.Map{Base: by(m.first, m.base)}
	for i := range 32 {
		if m.has(m.base + 1 + i) {
			want.More |= 1 << i
		}
	}
	if r.Map() != want || r.Base() != want.Base || r.Buffers() != len(m.held) || r.Waiting() != m.base-m.polled {
		t.Fatalf("%v, base %d, %d buffers, %d waiting; want %v, %d, %d", r.Map(), r.Base(), r.Buffers(), r.Waiting(), want, len(m.held), m.base-m.polled)
	}
	if r.Buffers() > m.pool {
		t.Fatalf("%d buffers of %d", r.Buffers(), m.pool)
	}
}

// text is message i: its length and its bytes hang on i alone.
func text(i int) string {
	chance := rand.New(rand.NewPCG(uint64(i), 24))
	b := make([]byte, chance.IntN(5))
	for k := range b {
		b[k] = byte(chance.Uint32())
	}
	return string(b)
}

// someFrame is one of message i, often turned, now and then not as it may be.
func someFrame(chance *rand.Rand, a seq.Num, i int) frame.Frame {
	f := data(a, chance.IntN(4), text(i))
	switch chance.IntN(30) {
	case 0:
		f.Kind = chance.IntN(4)
	case 1:
		f.Len = chance.IntN(80) - 8
	case 2:
		f.Version = chance.IntN(10) - 3
	case 3:
		f.Body = f.Body[:chance.IntN(len(f.Body))]
	case 4:
		f = turned(f, chance.IntN(len(f.Body)))
		f.Body[chance.IntN(len(f.Body))] = 2
	case 5:
		f = noise(data(a, 1, text(i)+"more"))
	case 6, 7, 8, 9, 10, 11, 12, 13, 14:
		f = noise(f)
	case 15, 16, 17, 18, 19, 20, 21:
		f = turned(f, 3, 5, 6, 7+chance.IntN(20), 30)
	}
	return f
}

// P24.1 to P24.3

func TestAgainstAModel(t *testing.T) {
	chance := rand.New(rand.NewPCG(24, 1))
	seen := map[api.Errno]int{}
	for _, c := range [][2]int{{1, 1}, {2, 1}, {4, 2}, {8, 3}, {16, 16}, {32, 1}, {32, 5}, {32, 16}} {
		for _, first := range []seq.Num{0, 32768, 65500, 65535} {
			r := receiver(t, first, c[0], c[1])
			m := &model{first: first, size: c[0], pool: c[1], come: map[int][]byte{}}
			for range 1200 {
				if chance.IntN(8) == 0 {
					got, ok := r.Poll()
					want, wantOK := m.poll()
					if !bytes.Equal(got, want) || ok != wantOK {
						t.Fatalf("Poll() = %v, %v, want %v, %v", got, ok, want, wantOK)
					}
					if ok && string(got) != text(m.polled-1) {
						t.Fatalf("message %d is %v", m.polled-1, got)
					}
				} else {
					i := m.base + chance.IntN(c[0]+4) - 2
					switch chance.IntN(20) {
					case 0:
						i = m.base + 32768 - chance.IntN(3)
					case 1:
						i = m.base - 32767 + chance.IntN(3)
					case 2, 3, 4, 5:
						i = m.base
					}
					f := someFrame(chance, by(first, i), i)
					got, e := r.Data(f)
					want, wantE := m.data(i, f)
					if got != want || e != wantE {
						t.Fatalf("Data of %d, %d from base %d on: %v, %d, want %v, %d", f.Seq, i, m.base, got, e, want, wantE)
					}
					seen[e]++
				}
				same(t, r, m)
			}
		}
	}
	for _, e := range []api.Errno{api.OK, api.ErrKind, api.ErrOld, api.ErrFar, api.ErrLong, api.ErrFull, api.ErrArg, api.ErrField, api.ErrForm, api.ErrNoise} {
		if seen[e] < 50 {
			t.Errorf("%d was answered %d times alone", e, seen[e])
		}
	}
}

// P24.2

// However many messages come that can't be read, and in whatever order: never more buffers than there may be.
func TestNeverMoreBuffers(t *testing.T) {
	chance := rand.New(rand.NewPCG(24, 2))
	for pool := 1; pool <= 16; pool++ {
		r := receiver(t, 65530, 32, pool)
		most := 0
		for range 300 {
			r.Data(noise(data(by(65530, chance.IntN(40)), chance.IntN(4), "m")))
			most = max(most, r.Buffers())
		}
		if most != pool {
			t.Errorf("%d buffers, there may be %d", most, pool)
		}
	}
}

// P24.3

// In whatever order the messages of a window come, and however often, they are polled in that of their numbers.
func TestEachOrder(t *testing.T) {
	orders := [][]int{{}}
	for i := range 5 {
		var more [][]int
		for _, o := range orders {
			for at := range len(o) + 1 {
				more = append(more, slices.Insert(slices.Clone(o), at, i))
			}
		}
		orders = more
	}
	if len(orders) != 120 {
		t.Fatalf("%d orders", len(orders))
	}
	for k, o := range orders {
		first := by(65525, k)
		r := receiver(t, first, 5, 1)
		for n, i := range o {
			reads(t, r, data(by(first, i), k%4, text(i)))
			for _, old := range o[:n+1] {
				refuses(t, r, data(by(first, old), (k+1)%4, text(old)), api.ErrOld)
			}
		}
		is(t, r, by(first, 5), 0, 0, 5)
		polls(t, r, text(0), text(1), text(2), text(3), text(4))
	}
}

// Numbers come round, and of what came nothing is left that could be taken for what comes a round later.
func TestNumbersComeRound(t *testing.T) {
	r := receiver(t, 63000, 32, 1)
	for i := 0; i < 6000; i += 2 {
		a := by(63000, i)
		m, n := string([]byte{byte(i), byte(i >> 8)}), string([]byte{byte(i >> 4)})
		reads(t, r, data(by(a, 1), 0, n))
		reads(t, r, data(a, 0, m))
		refuses(t, r, data(a, 0, m), api.ErrOld)
		is(t, r, by(a, 2), 0, 0, 2)
		polls(t, r, m, n)
		if len(r.come) != 0 {
			t.Fatalf("%d messages are kept", len(r.come))
		}
	}
}

// A sender and a receiver over a way that loses, doubles, turns and puts out of order: what is polled is always
// a beginning of what was sent, and at last all of it.
func TestWithASender(t *testing.T) {
	chance := rand.New(rand.NewPCG(24, 3))
	for _, c := range [][2]int{{1, 1}, {4, 1}, {8, 4}, {32, 16}} {
		w := api.Window{Size: c[0], Queue: 40, Pool: c[1]}
		s, _ := sender.New(65520, w)
		r, _ := New(65520, w)
		var under [][]byte
		sent, polled := 0, 0
		for range 20000 {
			for sent < 150 && s.Send([]byte(text(sent))) == api.OK {
				sent++
			}
			under = append(under, s.Tick()...)
			chance.Shuffle(len(under), func(i, j int) { under[i], under[j] = under[j], under[i] })
			for len(under) > 0 && chance.IntN(4) > 0 {
				b := under[0]
				switch chance.IntN(6) {
				case 0, 1:
					under = under[1:]
				case 2, 3:
					// Bits of the body are turned, none of the head.
					for range 4 {
						b[6+chance.IntN(len(b)-7)] ^= 1 << chance.IntN(8)
					}
				}
				if f, e := frame.Read(b); e == api.OK {
					r.Data(f)
				}
				if chance.IntN(3) > 0 {
					if e := s.Acked(r.Map()); e != api.OK {
						t.Fatalf("Acked(%v): %d", r.Map(), e)
					}
				}
			}
			for m, ok := r.Poll(); ok; m, ok = r.Poll() {
				if string(m) != text(polled) {
					t.Fatalf("message %d is %v, want %v", polled, m, []byte(text(polled)))
				}
				polled++
			}
			if sent == 150 && s.Kept() == 0 {
				break
			}
		}
		if polled != 150 || s.Kept() != 0 || r.Waiting() != 0 || r.Buffers() != 0 {
			t.Errorf("of %v: %d of %d polled, %d kept, %d buffers", c, polled, sent, s.Kept(), r.Buffers())
		}
	}
}

// P24.4

func TestDataKeepsNoArgument(t *testing.T) {
	r := receiver(t, 0, 4, 4)
	late, early := bruised(1, "hi")
	for _, f := range []frame.Frame{late, early, data(0, 1, "ho")} {
		room := append(slices.Clone(f.Body), 7, 7, 7, 7, 7, 7, 7, 7)
		want := slices.Clone(room)
		f.Body = room[:len(f.Body)]
		r.Data(f)
		if !slices.Equal(room, want) {
			t.Fatalf("what was handed in was changed: %v, want %v", room, want)
		}
		// What is done to it behind the call changes nothing.
		for i := range room {
			room[i] ^= 1
		}
	}
	is(t, r, 2, 0, 0, 2)
	polls(t, r, "ho", "hi")
}

func TestPollIsNewMemory(t *testing.T) {
	r := receiver(t, 0, 4, 1)
	f := data(1, 0, "bbbbbbbb")
	reads(t, r, f)
	reads(t, r, data(0, 0, "aaaaaaaa"))
	reads(t, r, data(2, 0, "cccccccc"))
	clear(f.Body)
	for _, want := range []string{"aaaaaaaa", "bbbbbbbb", "cccccccc"} {
		m, ok := r.Poll()
		if string(m) != want || !ok {
			t.Fatalf("Poll() = %q, %v, want %q", m, ok, want)
		}
		for all, i := m[:cap(m)], 0; i < len(all); i++ {
			all[i] = 'z'
		}
	}
	polls(t, r)
}

// Rule 5 of the document: the same calls, the same answers.
func TestAnswersAreAlwaysTheSame(t *testing.T) {
	run := func() []byte {
		chance := rand.New(rand.NewPCG(24, 4))
		r := receiver(t, 65500, 32, 3)
		var all []byte
		for range 400 {
			i := chance.IntN(40)
			_, e := r.Data(someFrame(chance, by(r.Base(), i), i))
			m := r.Map()
			all = append(all, byte(e), byte(m.Base), byte(m.More), byte(m.More>>8), byte(m.More>>16), byte(m.More>>24), byte(r.Buffers()))
			if chance.IntN(3) == 0 {
				b, _ := r.Poll()
				all = append(all, b...)
			}
		}
		return all
	}
	want := run()
	for range 5 {
		if !slices.Equal(run(), want) {
			t.Fatal("another answer of the same calls")
		}
	}
}

// P1 of the document

func TestNoCallPanics(t *testing.T) {
	chance := rand.New(rand.NewPCG(24, 5))
	var all []*Receiver
	for _, size := range []int{math.MinInt, -1, 0, 1, 2, 32, 33, math.MaxInt} {
		for _, pool := range []int{math.MinInt, 0, 1, 2, 16, 17, math.MaxInt} {
			made, _ := New(seq.Num(chance.Uint32()), window(size, pool))
			all = append(all, made)
		}
	}
	lens := []int{math.MinInt, -5, -1, 0, 1, 2, 64, 65, math.MaxInt}
	for _, r := range append(all, &Receiver{}) {
		for range 300 {
			body := make([]byte, chance.IntN(120))
			for i := range body {
				body[i] = byte(chance.IntN(2))
			}
			f := frame.Frame{Kind: chance.IntN(3), Seq: by(r.Base(), chance.IntN(40)-4), Version: chance.IntN(6) - 1, Len: lens[chance.IntN(len(lens))], Body: body}
			r.Data(f)
			if chance.IntN(3) == 0 {
				f.Kind, f.Version, f.Len = frame.Data, lens[chance.IntN(len(lens))], chance.IntN(3)
				r.Data(f)
			}
			r.Data(someFrame(chance, f.Seq, chance.IntN(5)))
			r.Map()
			r.Poll()
			r.Base()
			r.Buffers()
			r.Waiting()
		}
	}
}
