package link

import (
	"math"
	"slices"
	"testing"

	"shuttle/ackmap"
	"shuttle/api"
	"shuttle/frame"
	"shuttle/harq"
	"shuttle/seq"
)

// by is the number so far ahead of a, or before it, in ints that don't come round by themselves.
func by(a seq.Num, n int) seq.Num { return seq.Num(((int(a)+n)%65536 + 65536) % 65536) }

// bases are numbers at both ends, at the middle, and near them.
func bases() []seq.Num { return []seq.Num{0, 1, 1000, 32767, 32768, 65534, 65535} }

// end is a new one.
func end(t *testing.T, out, in seq.Num, size, queue, pool int) *End {
	t.Helper()
	e, no := New(Config{Window: api.Window{Size: size, Queue: queue, Pool: pool}, Out: out, In: in})
	if e == nil || no != api.OK {
		t.Fatalf("New(%d, %d, %d, %d, %d) = %v, %d", out, in, size, queue, pool, e, no)
	}
	return e
}

// data is version v of a message, as it is sent.
func data(a seq.Num, v int, message string) []byte {
	parts, _ := harq.Versions([]byte(message))
	b, _ := frame.Write(frame.Frame{Kind: frame.Data, Seq: a, Version: v, Len: len(message), Body: parts[v]})
	return b
}

// ack is what tells that all before base has come, and of those behind it the ones of more.
func ack(base seq.Num, more uint32) []byte {
	b, _ := frame.Write(frame.Frame{Kind: frame.Ack, Map: ackmap.Map{Base: base, More: more}})
	return b
}

// noise is a data frame with so much turned in its body that nobody reads it.
func noise(b []byte) []byte {
	b = slices.Clone(b)
	for i := 6; i < len(b)-1; i++ {
		b[i] ^= 0x49
	}
	return b
}

// bad are bytes that are no frame, one at least of each error.
func bad() [][]byte {
	turned := data(7, 0, "hi")
	turned[3] ^= 1
	other := ack(7, 1)
	other[8] ^= 128
	behind := data(0, 0, "")
	behind[len(behind)-1] |= 1
	return [][]byte{
		nil, {}, {0}, {1, 2}, {0x10}, {0x20}, {0x30, 0, 0, 0, 0, 0}, {0xff},
		turned, other, behind, make([]byte, 300),
		data(7, 1, "hi")[:6], data(7, 1, "hi")[:12], append(data(7, 2, "hi"), 0), append(ack(7, 1), 0), ack(7, 1)[:8],
	}
}

// counts fails unless an end counts just that.
func counts(t *testing.T, e *End, want Counts) {
	t.Helper()
	if got := e.Counts(); got != want {
		t.Fatalf("counts %+v, want %+v", got, want)
	}
}

// answers fails unless of a datagram one ack goes out, of all that has come.
func answers(t *testing.T, e *End, b []byte, base seq.Num, more uint32) {
	t.Helper()
	got := e.OnDatagram(b)
	if len(got) != 1 || !slices.Equal(got[0], ack(base, more)) {
		t.Fatalf("OnDatagram(%v) = %v, want the ack of %d and %b", b, got, base, more)
	}
}

// isSilent fails if of a datagram something goes out.
func isSilent(t *testing.T, e *End, b []byte) {
	t.Helper()
	if got := e.OnDatagram(b); len(got) != 0 {
		t.Fatalf("OnDatagram(%v) = %v, want nothing", b, got)
	}
}

// P25.1

func TestNew(t *testing.T) {
	far := []int{1 << 32, 1<<32 + 1, math.MaxInt, math.MinInt}
	for _, size := range append([]int{-1, 0, 1, 2, 31, 32, 33}, far...) {
		for _, queue := range append([]int{-1, 0, 1, 2, 31, 32, 33, 63, 64, 65}, far...) {
			for _, pool := range append([]int{-1, 0, 1, 2, 15, 16, 17}, far...) {
				e, no := New(Config{Window: api.Window{Size: size, Queue: queue, Pool: pool}, Out: 65535, In: 9})
				if size < 1 || size > 32 || queue < size || queue > 64 || pool < 1 || pool > 16 {
					if e != nil || no != api.ErrArg {
						t.Fatalf("New of %d, %d, %d = %v, %d, want nothing and ErrArg", size, queue, pool, e, no)
					}
					continue
				}
				if e == nil || no != api.OK || !e.Idle() || e.Sender().Base() != 65535 || e.Receiver().Base() != 9 {
					t.Fatalf("New of %d, %d, %d = %v, %d", size, queue, pool, e, no)
				}
				counts(t, e, Counts{})
			}
		}
	}
}

func TestTheWindowIsThatOfBothParts(t *testing.T) {
	e := end(t, 65535, 65534, 2, 3, 1)
	for i, want := range []api.Errno{api.OK, api.OK, api.OK, api.ErrFull} {
		if got := e.Send([]byte("m")); got != want {
			t.Errorf("Send %d: %d, want %d", i, got, want)
		}
	}
	if got := e.Sender().Under(); !slices.Equal(got, []seq.Num{65535, 0}) {
		t.Errorf("%v are under way", got)
	}
	answers(t, e, noise(data(65534, 0, "hi")), 65534, 0)
	answers(t, e, data(0, 0, "hi"), 65534, 0)
	answers(t, e, data(65535, 0, "hi"), 65534, 0)
	// The first one has the one buffer; the next one is too far, the last one has no room.
	counts(t, e, Counts{Refused: 1, Noise: 1, Far: 1, Bad: 1})
}

func TestExample(t *testing.T) {
	for _, first := range bases() {
		a, b := end(t, first, 0, 2, 2, 1), end(t, 0, first, 2, 2, 1)
		if !a.Idle() || !b.Idle() {
			t.Fatal("a new end keeps something")
		}
		if e := a.Send([]byte("hi")); e != api.OK || a.Idle() {
			t.Fatalf("%d, idle %v", e, a.Idle())
		}
		out := a.Tick()
		if len(out) != 1 || !slices.Equal(out[0], data(first, 0, "hi")) {
			t.Fatalf("Tick() = %v", out)
		}
		back := b.OnDatagram(out[0])
		if len(back) != 1 || !slices.Equal(back[0], ack(by(first, 1), 0)) {
			t.Fatalf("%v goes back", back)
		}
		isSilent(t, a, back[0])
		if m, ok := b.Poll(); !ok || string(m) != "hi" || !a.Idle() {
			t.Fatalf("Poll() = %q, %v, idle %v", m, ok, a.Idle())
		}
		if m, ok := b.Poll(); ok || len(m) != 0 {
			t.Fatalf("Poll() = %q, %v, want none", m, ok)
		}
		counts(t, a, Counts{Sent: 1, Acks: 1})
		counts(t, b, Counts{Read: 1})
	}
}

func TestSendCountsWhatIsRefused(t *testing.T) {
	e := end(t, 5, 0, 1, 2, 1)
	for i, c := range []struct {
		n       int
		want    api.Errno
		refused int
	}{
		{65, api.ErrLong, 1}, {64, api.OK, 1}, {1000, api.ErrLong, 2}, {0, api.OK, 2}, {0, api.ErrFull, 3}, {64, api.ErrFull, 4}, {65, api.ErrLong, 5},
	} {
		if got := e.Send(make([]byte, c.n)); got != c.want {
			t.Errorf("Send %d: %d, want %d", i, got, c.want)
		}
		counts(t, e, Counts{Refused: c.refused})
	}
	if e.Sender().Kept() != 2 {
		t.Errorf("%d are kept", e.Sender().Kept())
	}
}

func TestIdle(t *testing.T) {
	e := end(t, 3, 9, 2, 4, 1)
	for range 3 {
		e.Send([]byte("m"))
	}
	// What comes is nothing that the sender keeps, and an ack of some is none of all.
	answers(t, e, data(9, 0, "in"), 10, 0)
	for i, c := range []struct {
		base seq.Num
		more uint32
		want bool
	}{
		{3, 0, false}, {3, 1, false}, {3, 2, false}, {4, 0, true},
	} {
		isSilent(t, e, ack(c.base, c.more))
		if e.Idle() != c.want {
			t.Errorf("ack %d: idle %v", i, e.Idle())
		}
	}
	if e.Receiver().Waiting() != 1 {
		t.Error("nothing is waiting")
	}
}

// All frames of all tries are counted, of whatever burst.
func TestTickCountsAllFrames(t *testing.T) {
	e := end(t, 65534, 0, 4, 8, 1)
	if out := e.Tick(); len(out) != 0 {
		t.Fatalf("%v goes out", out)
	}
	sent := 0
	// The message ahead had three tries each time: the burst goes up to four.
	for round, burst := range []int{1, 2, 4, 4} {
		e.Send([]byte("m"))
		for i, want := range []int{burst, 0, 1, 0, 0, 0, 1} {
			out := e.Tick()
			if len(out) != want {
				t.Fatalf("round %d, tick %d: %d frames, want %d", round, i, len(out), want)
			}
			sent += want
			counts(t, e, Counts{Sent: sent, Acks: round})
		}
		isSilent(t, e, ack(by(65534, round+1), 0))
	}
}

func TestWhatIsNoFrame(t *testing.T) {
	e := end(t, 7, 7, 4, 4, 2)
	e.Send([]byte("hi"))
	answers(t, e, noise(data(8, 0, "in")), 7, 0)
	answers(t, e, data(9, 0, "in"), 7, 2)
	for i, b := range bad() {
		isSilent(t, e, b)
		counts(t, e, Counts{Read: 1, Noise: 1, Bad: i + 1})
		if e.Receiver().Map() != (ackmap.Map{Base: 7, More: 2}) || e.Receiver().Buffers() != 1 || e.Sender().Kept() != 1 || e.Sender().Now() != 0 {
			t.Fatalf("%v changed something", b)
		}
	}
}

func TestAcks(t *testing.T) {
	for _, first := range bases() {
		e := end(t, first, 500, 4, 8, 2)
		for range 6 {
			e.Send([]byte("m"))
		}
		e.Tick()
		for i, c := range []struct {
			ahead     int
			more      uint32
			far, kept int
		}{
			{-1, 0, 0, 6}, {0, 2, 0, 6}, {0, 1, 0, 6}, {7, 0, 1, 6}, {0, 1 << 5, 2, 6}, {5, 1 << 31, 3, 6}, {-30, 1, 3, 6}, {3, 0, 3, 3}, {3, 0, 3, 3}, {6, 0, 3, 0}, {7, 0, 4, 0}, {6, 1, 5, 0}, {1000, 0, 6, 0},
		} {
			isSilent(t, e, ack(by(first, c.ahead), c.more))
			counts(t, e, Counts{Sent: 4, Acks: i + 1, Far: c.far})
			if e.Sender().Kept() != c.kept || e.Idle() != (c.kept == 0) {
				t.Fatalf("ack %d: %d are kept, want %d", i, e.Sender().Kept(), c.kept)
			}
		}
		if e.Receiver().Map() != (ackmap.Map{Base: 500}) {
			t.Errorf("the receiver has %v", e.Receiver().Map())
		}
	}
}

// Whatever a data frame is, an ack of all that has come by then goes out.
func TestData(t *testing.T) {
	for _, first := range bases() {
		e := end(t, 500, first, 4, 4, 1)
		want := Counts{}
		is := func(count *int, b []byte, base int, more uint32) {
			t.Helper()
			*count++
			answers(t, e, b, by(first, base), more)
			counts(t, e, want)
		}
		is(&want.Read, data(by(first, 2), 1, "c"), 0, 2)
		is(&want.Old, data(by(first, 2), 0, "c"), 0, 2)
		is(&want.Old, data(by(first, -1), 0, "x"), 0, 2)
		is(&want.Old, data(by(first, -32767), 0, "x"), 0, 2)
		is(&want.Far, data(by(first, 4), 0, "e"), 0, 2)
		is(&want.Far, data(by(first, 32768), 0, "x"), 0, 2)
		is(&want.Noise, noise(data(by(first, 1), 0, "bb")), 0, 2)
		is(&want.Bad, data(by(first, 3), 0, "d"), 0, 2)
		is(&want.Noise, noise(data(first, 0, "aa")), 0, 2)
		is(&want.Noise, noise(data(first, 1, "a")), 0, 2)
		is(&want.Read, data(first, 2, "aa"), 1, 1)
		is(&want.Read, data(by(first, 1), 3, "bb"), 3, 0)
		is(&want.Read, data(by(first, 4), 0, "e"), 3, 1)
		is(&want.Old, data(by(first, 4), 3, "e"), 3, 1)
		is(&want.Old, noise(data(by(first, 1), 3, "bb")), 3, 1)
		is(&want.Read, data(by(first, 3), 0, ""), 5, 0)
		for _, m := range []string{"aa", "bb", "c", "", "e"} {
			if got, ok := e.Poll(); !ok || string(got) != m {
				t.Fatalf("Poll() = %q, %v, want %q", got, ok, m)
			}
		}
		if _, ok := e.Poll(); ok || e.Sender().Kept() != 0 || e.Sender().Base() != 500 {
			t.Error("there is more")
		}
		counts(t, e, want)
	}
}

// Who asks for a count has a copy of it.
func TestCountsAreACopy(t *testing.T) {
	e := end(t, 0, 0, 1, 1, 1)
	c := e.Counts()
	c.Bad, c.Sent = 7, 7
	counts(t, e, Counts{})
}

// The parts are always the same ones, and tell what the end does.
func TestParts(t *testing.T) {
	e := end(t, 40, 50, 2, 2, 1)
	s, r := e.Sender(), e.Receiver()
	e.Send([]byte("m"))
	e.Tick()
	e.OnDatagram(data(50, 0, "m"))
	if s != e.Sender() || r != e.Receiver() || s.Kept() != 1 || s.Now() != 1 || r.Base() != 51 || r.Waiting() != 1 {
		t.Errorf("kept %d, at %d; base %d, waiting %d", s.Kept(), s.Now(), r.Base(), r.Waiting())
	}
}

func TestNilEnd(t *testing.T) {
	var e *End
	for range 2 {
		if no := e.Send([]byte("m")); no != api.ErrArg {
			t.Errorf("Send: %d", no)
		}
		if no := e.Send(make([]byte, 65)); no != api.ErrArg {
			t.Errorf("Send of much: %d", no)
		}
		if m, ok := e.Poll(); ok || len(m) != 0 {
			t.Errorf("Poll() = %v, %v", m, ok)
		}
		if len(e.Tick()) != 0 || e.Idle() || e.Counts() != (Counts{}) || e.Sender() != nil || e.Receiver() != nil {
			t.Error("a nil end has something")
		}
		for _, b := range [][]byte{nil, {1}, data(0, 0, "m"), ack(0, 0)} {
			isSilent(t, e, b)
		}
	}
}

func TestAnEndThatNewDidNotMake(t *testing.T) {
	e := &End{}
	if no := e.Send([]byte("m")); no != api.ErrArg {
		t.Errorf("Send: %d", no)
	}
	if m, ok := e.Poll(); ok || len(m) != 0 || len(e.Tick()) != 0 || e.Sender() != nil || e.Receiver() != nil {
		t.Error("it has something")
	}
	isSilent(t, e, ack(0, 0))
	isSilent(t, e, nil)
	answers(t, e, data(0, 0, "m"), 0, 0)
	counts(t, e, Counts{Refused: 1, Acks: 1, Bad: 2})
}
