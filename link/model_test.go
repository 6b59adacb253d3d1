package link

import (
	"math/rand/v2"
	"slices"
	"testing"

	"shuttle/ackmap"
	"shuttle/api"
	"shuttle/frame"
	"shuttle/receiver"
	"shuttle/sender"
	"shuttle/seq"
)

// model is a sender and a receiver by themselves, and counts by name.
type model struct {
	s *sender.Sender
	r *receiver.Receiver
	n map[string]int
}

func (m *model) send(b []byte) api.Errno {
	e := m.s.Send(b)
	if e != api.OK {
		m.n["refused"]++
	}
	return e
}

func (m *model) tick() [][]byte {
	l := m.s.Tick()
	m.n["sent"] += len(l)
	return l
}

func (m *model) onDatagram(b []byte) [][]byte {
	f, e := frame.Read(b)
	if e != api.OK {
		m.n["bad"]++
		return nil
	}
	if f.Kind == frame.Ack {
		m.n["acks"]++
		if m.s.Acked(f.Map) == api.ErrFar {
			m.n["far"]++
		}
		return nil
	}
	ok, e := m.r.Data(f)
	names := map[api.Errno]string{api.ErrOld: "old", api.ErrFar: "far", api.ErrNoise: "noise"}
	name, there := names[e]
	if ok {
		name = "read"
	} else if !there {
		name = "bad"
	}
	m.n[name]++
	return [][]byte{ack(m.r.Map().Base, m.r.Map().More)}
}

func (m *model) counts() Counts {
	return Counts{Sent: m.n["sent"], Refused: m.n["refused"], Bad: m.n["bad"], Old: m.n["old"], Far: m.n["far"], Noise: m.n["noise"], Read: m.n["read"], Acks: m.n["acks"]}
}

// same fails unless an end and a model tell the same, and keep no more than they may.
func same(t *testing.T, e *End, m *model, w api.Window) {
	t.Helper()
	if e.Counts() != m.counts() {
		t.Fatalf("counts %+v, want %+v", e.Counts(), m.counts())
	}
	s, r := e.Sender(), e.Receiver()
	if s.Kept() != m.s.Kept() || s.Base() != m.s.Base() || !slices.Equal(s.Under(), m.s.Under()) || s.Policy() != m.s.Policy() || s.Now() != m.s.Now() {
		t.Fatal("the sender isn't as it should be")
	}
	if r.Map() != m.r.Map() || r.Buffers() != m.r.Buffers() || r.Waiting() != m.r.Waiting() {
		t.Fatal("the receiver isn't as it should be")
	}
	if e.Idle() != (m.s.Kept() == 0) {
		t.Fatalf("idle %v, and %d are kept", e.Idle(), m.s.Kept())
	}
	if s.Kept() > w.Queue || len(s.Under()) > w.Size || r.Buffers() > w.Pool {
		t.Fatalf("%d kept, %d under way, %d buffers of %v", s.Kept(), len(s.Under()), r.Buffers(), w)
	}
}

// someData is a data frame for a receiver, often so much turned that it can't be read.
func someData(chance *rand.Rand, base seq.Num, size int) []byte {
	n := chance.IntN(size + 1)
	switch chance.IntN(8) {
	case 0:
		n = -1 - chance.IntN(40)
	case 1:
		n = size + chance.IntN(60)
	}
	a := by(base, n)
	b := data(a, chance.IntN(4), string(make([]byte, int(a)%5)))
	switch chance.IntN(3) {
	case 0:
		b = noise(b)
	case 1:
		b[6+chance.IntN(len(b)-7)] ^= byte(1 + chance.IntN(255))
	}
	return b
}

// someAck is an ack for a sender, often of too much, or an old one.
func someAck(chance *rand.Rand, base seq.Num, kept int) []byte {
	switch chance.IntN(5) {
	case 0:
		return ack(seq.Num(chance.Uint32()), chance.Uint32())
	case 1:
		return ack(by(base, chance.IntN(80)-40), chance.Uint32()>>chance.IntN(32))
	case 2:
		return ack(by(base, chance.IntN(kept+2)), 0)
	}
	return ack(base, chance.Uint32()>>max(0, 34-kept)>>chance.IntN(3))
}

// someBytes are any bytes, or a frame with some of them changed, left out or put in.
func someBytes(chance *rand.Rand) []byte {
	b := make([]byte, chance.IntN(150))
	for i := range b {
		b[i] = byte(chance.Uint32())
	}
	switch chance.IntN(4) {
	case 0:
		return b
	case 1:
		b = ack(seq.Num(chance.Uint32()), chance.Uint32())
	default:
		b = data(seq.Num(chance.Uint32()), chance.IntN(4), string(b[:len(b)/3]))
	}
	switch at := chance.IntN(len(b)); chance.IntN(3) {
	case 0:
		b[at] ^= byte(1 + chance.IntN(255))
	case 1:
		b = b[:at]
	case 2:
		b = slices.Insert(b, at, byte(chance.Uint32()))
	}
	return b
}

// windows are the least ones, the greatest ones, and some between.
func windows() []api.Window {
	return []api.Window{{Size: 1, Queue: 1, Pool: 1}, {Size: 2, Queue: 5, Pool: 1}, {Size: 4, Queue: 4, Pool: 2}, {Size: 7, Queue: 30, Pool: 16}, {Size: 32, Queue: 64, Pool: 3}, {Size: 32, Queue: 32, Pool: 16}}
}

// P25.1, P25.2

func TestAgainstAModel(t *testing.T) {
	chance := rand.New(rand.NewPCG(25, 1))
	all := map[string]int{}
	for _, w := range windows() {
		for _, first := range []seq.Num{0, 32700, 65500, 65535} {
			e := end(t, first, first+9, w.Size, w.Queue, w.Pool)
			m := &model{n: map[string]int{}}
			m.s, _ = sender.New(first, w)
			m.r, _ = receiver.New(first+9, w)
			for range 800 {
				var got, want [][]byte
				b := someBytes(chance)
				switch chance.IntN(8) {
				case 0, 1:
					text := make([]byte, chance.IntN(72))
					if got, want := e.Send(text), m.send(text); got != want {
						t.Fatalf("Send of %d bytes: %d, want %d", len(text), got, want)
					}
				case 2:
					got, ok := e.Poll()
					want, there := m.r.Poll()
					if !slices.Equal(got, want) || ok != there {
						t.Fatalf("Poll() = %v, %v, want %v, %v", got, ok, want, there)
					}
				case 3:
					got, want = e.Tick(), m.tick()
				case 4, 5:
					b = someData(chance, m.r.Base(), w.Size)
					got, want = e.OnDatagram(b), m.onDatagram(b)
				case 6:
					b = someAck(chance, m.s.Base(), m.s.Kept())
					got, want = e.OnDatagram(b), m.onDatagram(b)
				case 7:
					got, want = e.OnDatagram(b), m.onDatagram(b)
				}
				if !slices.EqualFunc(got, want, slices.Equal) {
					t.Fatalf("%v goes out, want %v", got, want)
				}
				same(t, e, m, w)
			}
			for name, n := range m.n {
				all[name] += n
			}
		}
	}
	for _, name := range []string{"sent", "refused", "bad", "old", "far", "noise", "read", "acks"} {
		if all[name] < 200 {
			t.Errorf("%s was counted %d times alone", name, all[name])
		}
	}
}

// P25.2

// Of two ends one is given bytes that are no frames, too: all that it tells is what the other one does, but for Bad.
func TestWhatIsNoFrameChangesNothingButACount(t *testing.T) {
	chance := rand.New(rand.NewPCG(25, 2))
	for _, w := range windows() {
		a, b := end(t, 65530, 65530, w.Size, w.Queue, w.Pool), end(t, 65530, 65530, w.Size, w.Queue, w.Pool)
		n := 0
		for range 300 {
			for range 10 {
				x := someBytes(chance)
				if _, e := frame.Read(x); e != api.OK {
					isSilent(t, a, x)
					n++
				}
			}
			x := someData(chance, b.Receiver().Base(), w.Size)
			if chance.IntN(2) == 0 {
				x = someAck(chance, b.Sender().Base(), b.Sender().Kept())
			}
			a.Send(x[:5])
			b.Send(x[:5])
			if got, want := a.Tick(), b.Tick(); !slices.EqualFunc(got, want, slices.Equal) {
				t.Fatalf("%v goes out, want %v", got, want)
			}
			if got, want := a.OnDatagram(x), b.OnDatagram(x); !slices.EqualFunc(got, want, slices.Equal) {
				t.Fatalf("%v goes out, want %v", got, want)
			}
			want := b.Counts()
			want.Bad += n
			counts(t, a, want)
			m := &model{s: b.Sender(), r: b.Receiver()}
			if m.r.Map() != a.Receiver().Map() || m.r.Buffers() != a.Receiver().Buffers() || m.s.Kept() != a.Sender().Kept() || m.s.Policy() != a.Sender().Policy() {
				t.Fatal("what is no frame changed something")
			}
		}
		if n < 2000 {
			t.Errorf("%d were no frames alone", n)
		}
	}
}

// FuzzOnDatagram: whatever bytes come, nothing panics, and no more is kept than may be.
func FuzzOnDatagram(f *testing.F) {
	for _, b := range bad() {
		f.Add(b)
	}
	f.Add(data(65535, 1, "hi"))
	f.Add(noise(data(0, 1, "hi")))
	f.Add(ack(65535, 1))
	f.Fuzz(func(t *testing.T, b []byte) {
		e := end(t, 65534, 65534, 2, 3, 1)
		for range 4 {
			e.Send([]byte("m"))
		}
		for range 3 {
			was := e.Receiver().Map()
			out := e.OnDatagram(b)
			_, no := frame.Read(b)
			if len(out) > 1 || no != api.OK && (len(out) > 0 || e.Receiver().Map() != was || e.Sender().Kept() != 3) {
				t.Fatalf("%v goes out", out)
			}
			e.Tick()
		}
		if s, r := e.Sender(), e.Receiver(); s.Kept() > 3 || len(s.Under()) > 2 || r.Buffers() > 1 {
			t.Fatalf("%d kept, %d under way, %d buffers", s.Kept(), len(s.Under()), r.Buffers())
		}
	})
}

// P25.3

// over writes over a list, to the end of its room.
func over(b []byte) {
	for all, i := b[:cap(b)], 0; i < len(all); i++ {
		all[i] = 0x5a
	}
}

// room is a copy with spare room behind it, and all of that.
func room(b []byte) ([]byte, []byte) {
	all := append(slices.Clone(b), 7, 7, 7, 7, 7, 7, 7, 7)
	return all[:len(b)], all
}

func TestNothingIsKeptOrShared(t *testing.T) {
	a, b := end(t, 65535, 0, 4, 8, 2), end(t, 0, 65535, 4, 8, 2)
	texts := []string{"", "one", "two", "three", "four", "five", "six", "seven"}
	for _, text := range texts {
		m, all := room([]byte(text))
		want := slices.Clone(all)
		if e := a.Send(m); e != api.OK || !slices.Equal(all, want) {
			t.Fatalf("Send(%q): %d, %v", text, e, all)
		}
		over(all)
	}
	n := 0
	for range 3 {
		out := a.Tick()
		for i, x := range out {
			if want := data(by(65535, n), 0, texts[n]); !slices.Equal(x, want) {
				t.Fatalf("%v goes out, want %v", x, want)
			}
			n++
			x, all := room(x)
			over(out[i])
			want := slices.Clone(all)
			back := b.OnDatagram(x)
			if !slices.Equal(all, want) || len(back) != 1 {
				t.Fatalf("what was handed in was changed: %v, want %v", all, want)
			}
			over(all)
			x, all = room(back[0])
			over(back[0])
			clear(back)
			want = slices.Clone(all)
			isSilent(t, a, x)
			if !slices.Equal(all, want) {
				t.Fatalf("what was handed in was changed: %v, want %v", all, want)
			}
			over(all)
		}
		clear(out)
	}
	for _, text := range texts {
		m, ok := b.Poll()
		if string(m) != text || !ok {
			t.Fatalf("Poll() = %q, %v, want %q", m, ok, text)
		}
		over(m)
	}
	if !a.Idle() {
		t.Error("it isn't idle")
	}
	if base := (ackmap.Map{Base: 7}); b.Receiver().Map() != base {
		t.Errorf("%v has come", b.Receiver().Map())
	}
}

// Rule 5 of the document: the same calls, the same answers.
func TestAnswersAreAlwaysTheSame(t *testing.T) {
	run := func() []byte {
		chance := rand.New(rand.NewPCG(25, 3))
		e := end(t, 65500, 65500, 32, 64, 3)
		var all []byte
		for range 300 {
			e.Send([]byte{byte(chance.Uint32())})
			out := e.Tick()
			out = append(out, e.OnDatagram(someData(chance, e.Receiver().Base(), 32))...)
			out = append(out, e.OnDatagram(someAck(chance, e.Sender().Base(), e.Sender().Kept()))...)
			for _, b := range out {
				all = append(all, b...)
			}
		}
		return all
	}
	want := run()
	for range 2 {
		if !slices.Equal(run(), want) {
			t.Fatal("another answer of the same calls")
		}
	}
}
