package duplex

import (
	"math"
	"slices"
	"testing"

	"shuttle/api"
	"shuttle/frame"
	"shuttle/harq"
	"shuttle/link"
	"shuttle/seq"
)

// pair is a new one.
func pair(t *testing.T, size, queue, pool int, first [2]seq.Num, age int) *Pair {
	t.Helper()
	p, e := New(Config{Window: api.Window{Size: size, Queue: queue, Pool: pool}, First: first, Age: age})
	if p == nil || e != api.OK {
		t.Fatalf("New(%d, %d, %d, %d, %d) = %v, %d", size, queue, pool, first, age, p, e)
	}
	return p
}

// flights fails unless so many are under way to end 0, and to end 1.
func flights(t *testing.T, p *Pair, to0, to1 int) {
	t.Helper()
	if a, b := p.Flights(0), p.Flights(1); a != to0 || b != to1 {
		t.Fatalf("%d to end 0, %d to end 1, want %d, %d", a, b, to0, to1)
	}
}

// polls fails unless just these messages come to an end, and none behind them.
func polls(t *testing.T, p *Pair, end int, want ...string) {
	t.Helper()
	for _, x := range want {
		if b, ok := p.Poll(end); !ok || string(b) != x {
			t.Fatalf("Poll(%d) = %q, %v, want %q", end, b, ok, x)
		}
	}
	if b, ok := p.Poll(end); ok || len(b) != 0 {
		t.Fatalf("Poll(%d) = %q, %v, want none", end, b, ok)
	}
}

// is fails unless an answer is that error.
func is(t *testing.T, got, want api.Errno) {
	t.Helper()
	if got != want {
		t.Fatalf("%d, want %d", got, want)
	}
}

// noEnds are numbers of which there is no end.
func noEnds() []int { return []int{-1, 2, 3, 255, 256, 1 << 32, 1<<32 + 1, math.MaxInt, math.MinInt} }

// data is version 0 of a message, as it is sent.
func data(a seq.Num, message string) []byte {
	parts, _ := harq.Versions([]byte(message))
	b, _ := frame.Write(frame.Frame{Kind: frame.Data, Seq: a, Len: len(message), Body: parts[0]})
	return b
}

// P35.1

func TestNew(t *testing.T) {
	far := []int{1 << 32, 1<<32 + 1, math.MaxInt, math.MinInt}
	for _, size := range append([]int{-1, 0, 1, 32, 33}, far...) {
		for _, queue := range append([]int{0, 1, 31, 32, 64, 65}, far...) {
			for _, pool := range append([]int{0, 1, 16, 17}, far...) {
				for _, age := range append([]int{-1, 0, 1, 2, 999, 1000, 1001}, far...) {
					c := Config{Window: api.Window{Size: size, Queue: queue, Pool: pool}, First: [2]seq.Num{65535, 0}, Age: age}
					p, e := New(c)
					if size < 1 || size > 32 || queue < size || queue > 64 || pool < 1 || pool > 16 || age < 1 || age > 1000 {
						if p != nil || e != api.ErrArg {
							t.Fatalf("New(%v) = %v, %d, want nothing and ErrArg", c, p, e)
						}
						continue
					}
					if p == nil || e != api.OK || !p.Idle() {
						t.Fatalf("New(%v) = %v, %d", c, p, e)
					}
					flights(t, p, 0, 0)
				}
			}
		}
	}
}

func TestTheEndsOfANewOne(t *testing.T) {
	for _, first := range [][2]seq.Num{{0, 0}, {7, 1000}, {65535, 0}, {0, 65535}, {32768, 32767}, {65534, 3}} {
		p := pair(t, 2, 3, 1, first, 5)
		if p.End(0) == nil || p.End(1) == nil || p.End(0) == p.End(1) || p.End(0) != p.End(0) {
			t.Fatal("there aren't two ends")
		}
		for end := range 2 {
			e := p.End(end)
			if e.Sender().Base() != first[end] || e.Receiver().Base() != first[1-end] {
				t.Errorf("of %v end %d sends from %d, and receives from %d", first, end, e.Sender().Base(), e.Receiver().Base())
			}
			// Both have the window.
			for i := range 4 {
				want := api.OK
				if i == 3 {
					want = api.ErrFull
				}
				is(t, p.Send(end, nil), want)
			}
			if n := len(e.Sender().Under()); n != 2 {
				t.Errorf("%d are under way", n)
			}
			e.OnDatagram(data(seq.Plus(first[1-end], 2), "m"))
			if e.Counts().Far != 1 {
				t.Errorf("%v", e.Counts())
			}
		}
	}
}

func TestExample(t *testing.T) {
	for _, first := range [][2]seq.Num{{0, 0}, {65535, 7}, {7, 65535}} {
		p := pair(t, 1, 1, 1, first, 1)
		is(t, p.Send(0, []byte("x")), api.OK)
		is(t, p.Send(1, []byte("y")), api.OK)
		if p.Idle() {
			t.Error("it is idle")
		}
		flights(t, p, 0, 0)
		p.Tick()
		flights(t, p, 1, 1)
		is(t, p.Come(0, 0), api.OK)
		flights(t, p, 0, 2)
		is(t, p.Come(1, 0), api.OK)
		flights(t, p, 1, 1)
		if p.Idle() || p.End(0).Idle() || p.End(1).Idle() {
			t.Error("it is idle ahead of the acks")
		}
		is(t, p.Come(1, 0), api.OK)
		if p.Idle() || p.End(0).Idle() || !p.End(1).Idle() {
			t.Error("one ack has come")
		}
		is(t, p.Come(0, 0), api.OK)
		if !p.Idle() || !p.End(0).Idle() || !p.End(1).Idle() {
			t.Error("it isn't idle")
		}
		flights(t, p, 0, 0)
		polls(t, p, 0, "y")
		polls(t, p, 1, "x")
	}
}

// Each end is by itself: what one keeps, the other one doesn't.
func TestSendAndPoll(t *testing.T) {
	p := pair(t, 1, 2, 1, [2]seq.Num{5, 50}, 5)
	long := make([]byte, 65)
	for end := range 2 {
		is(t, p.Send(end, long), api.ErrLong)
		is(t, p.Send(end, []byte{'a', byte('0' + end)}), api.OK)
		is(t, p.Send(end, nil), api.OK)
		is(t, p.Send(end, []byte("c")), api.ErrFull)
		is(t, p.Send(end, long), api.ErrLong)
		if c := p.End(end).Counts(); c != (link.Counts{Refused: 3}) {
			t.Errorf("%+v", c)
		}
	}
	polls(t, p, 0)
	polls(t, p, 1)
	p.Tick()
	is(t, p.Come(1, 0), api.OK)
	polls(t, p, 0)
	polls(t, p, 1, "a0")
	is(t, p.Come(0, 1), api.OK)
	is(t, p.Send(1, []byte("c")), api.ErrFull)
	is(t, p.Send(0, long[1:]), api.OK)
	is(t, p.Come(0, 0), api.OK)
	polls(t, p, 1)
	polls(t, p, 0, "a1")
}

func TestNoSuchEnd(t *testing.T) {
	p := pair(t, 2, 2, 1, [2]seq.Num{5, 50}, 5)
	for end := range 2 {
		is(t, p.Send(end, nil), api.OK)
	}
	p.Tick()
	for _, end := range noEnds() {
		// Of no end it is ErrArg, whatever else is wrong.
		is(t, p.Send(end, []byte("x")), api.ErrArg)
		is(t, p.Send(end, make([]byte, 65)), api.ErrArg)
		for _, k := range []int{0, -1, 7} {
			is(t, p.Come(end, k), api.ErrArg)
			is(t, p.Lose(end, k), api.ErrArg)
			is(t, p.Twice(end, k), api.ErrArg)
		}
		polls(t, p, end)
		if n := p.Flights(end); n != 0 || p.End(end) != nil {
			t.Errorf("there is an end %d", end)
		}
	}
	flights(t, p, 1, 1)
	for end := range 2 {
		if c := p.End(end).Counts(); c != (link.Counts{Sent: 1}) || p.End(end).Sender().Kept() != 1 {
			t.Errorf("%+v", c)
		}
	}
}

// Both channels are a step on ahead of what goes out: of the age 1 the frames of the tick ahead are gone, new ones not.
func TestTick(t *testing.T) {
	p := pair(t, 2, 3, 1, [2]seq.Num{65535, 9}, 1)
	for range 3 {
		is(t, p.Send(0, []byte("a")), api.OK)
	}
	is(t, p.Send(1, []byte("b")), api.OK)
	for _, want := range [][2]int{{1, 2}, {0, 0}, {1, 2}, {0, 0}, {0, 0}, {0, 0}, {1, 2}, {0, 0}} {
		p.Tick()
		flights(t, p, want[0], want[1])
	}
	for end := range 2 {
		if n := p.End(end).Sender().Now(); n != 8 {
			t.Errorf("end %d is at the tick %d", end, n)
		}
	}
}

func TestAge(t *testing.T) {
	for _, age := range []int{1, 3, 5, 1000} {
		p := pair(t, 1, 1, 1, [2]seq.Num{1, 2}, age)
		is(t, p.Send(0, nil), api.OK)
		is(t, p.Send(1, nil), api.OK)
		p.Tick()
		// Each ack is as old as the tick at which its frame came.
		is(t, p.Come(0, 0), api.OK)
		is(t, p.Come(1, 0), api.OK)
		is(t, p.Lose(0, 0), api.OK)
		is(t, p.Twice(1, 0), api.OK)
		is(t, p.Come(1, 0), api.OK)
		flights(t, p, 0, 1)
		if !p.End(1).Idle() {
			t.Fatal("end 1 sends on")
		}
		// End 0 has no ack: its tries are at the ticks 1, 3, 7, and so on, none of them just behind one of these ages.
		for tick := 2; tick <= age; tick++ {
			p.Tick()
			for p.Flights(1) > 1 {
				is(t, p.Lose(1, 1), api.OK)
			}
		}
		flights(t, p, 0, 1)
		p.Tick()
		flights(t, p, 0, 0)
	}
}

// Frames go out in order, and the ones of an end to the other one; end 0's tick is ahead of end 1's.
func TestWhereFramesGo(t *testing.T) {
	p := pair(t, 3, 3, 3, [2]seq.Num{10, 20}, 5)
	for i := range 3 {
		is(t, p.Send(0, []byte{'a' + byte(i)}), api.OK)
	}
	is(t, p.Send(1, []byte("x")), api.OK)
	is(t, p.Send(1, []byte("y")), api.OK)
	p.Tick()
	flights(t, p, 2, 3)
	is(t, p.Come(1, 2), api.OK)
	is(t, p.Lose(1, 1), api.OK)
	is(t, p.Come(1, 0), api.OK)
	flights(t, p, 4, 0)
	polls(t, p, 1, "a")
	is(t, p.Come(0, 0), api.OK)
	polls(t, p, 0, "x")
	flights(t, p, 3, 1)
	if m := p.End(1).Receiver().Map(); m.Base != 11 || m.More != 1 {
		t.Errorf("%v", m)
	}
	// The acks stand behind the frame of the other message.
	is(t, p.Come(0, 2), api.OK)
	if u := p.End(0).Sender().Under(); !slices.Equal(u, []seq.Num{11}) {
		t.Errorf("%v are under way", u)
	}
	is(t, p.Come(0, 1), api.OK)
	is(t, p.Come(0, 0), api.OK)
	polls(t, p, 0, "y")
	flights(t, p, 0, 2)
	if c := p.End(0).Counts(); c != (link.Counts{Sent: 3, Read: 2, Acks: 2}) {
		t.Errorf("%+v", c)
	}
}

func TestMissAndFull(t *testing.T) {
	p := pair(t, 1, 1, 1, [2]seq.Num{10, 20}, 5)
	for end := range 2 {
		is(t, p.Send(1-end, nil), api.OK)
	}
	p.Tick()
	for end := range 2 {
		for _, k := range []int{1, -1, 2, 1 << 32, math.MaxInt, math.MinInt} {
			is(t, p.Come(end, k), api.ErrMiss)
			is(t, p.Lose(end, k), api.ErrMiss)
			is(t, p.Twice(end, k), api.ErrMiss)
		}
		flights(t, p, 1+4095*end, 1)
		for range 4095 {
			is(t, p.Twice(end, 0), api.OK)
		}
		is(t, p.Twice(end, 0), api.ErrFull)
		is(t, p.Twice(end, 4096), api.ErrMiss)
	}
	flights(t, p, 4096, 4096)
	// There is no room for an ack; behind that, for one.
	is(t, p.Come(0, 0), api.OK)
	flights(t, p, 4095, 4096)
	is(t, p.Come(1, 0), api.OK)
	flights(t, p, 4096, 4095)
	is(t, p.Lose(1, 4094), api.OK)
	flights(t, p, 4096, 4094)
}

func TestTwiceAndLose(t *testing.T) {
	p := pair(t, 2, 2, 2, [2]seq.Num{10, 20}, 5)
	for end := range 2 {
		is(t, p.Send(1-end, []byte("a")), api.OK)
		is(t, p.Send(1-end, []byte("b")), api.OK)
	}
	p.Tick()
	for end := range 2 {
		n := p.Flights(1 - end)
		is(t, p.Twice(end, 1), api.OK)
		is(t, p.Lose(end, 1), api.OK)
		is(t, p.Come(end, 0), api.OK)
		polls(t, p, end, "a")
		is(t, p.Come(end, p.Flights(end)-1), api.OK)
		polls(t, p, end, "b")
		if got := p.Flights(1 - end); got != n+2 {
			t.Errorf("%d flights to the other one, want %d", got, n+2)
		}
	}
}

func TestNilPair(t *testing.T) {
	var p *Pair
	for _, end := range append(noEnds(), 0, 1) {
		is(t, p.Send(end, []byte("x")), api.ErrArg)
		is(t, p.Come(end, 0), api.ErrArg)
		is(t, p.Lose(end, 0), api.ErrArg)
		is(t, p.Twice(end, 0), api.ErrArg)
		polls(t, p, end)
		if p.Flights(end) != 0 || p.End(end) != nil {
			t.Error("a nil pair has an end")
		}
	}
	p.Tick()
	if p.Idle() {
		t.Error("a nil pair is idle")
	}
}

func TestAPairThatNewDidNotMake(t *testing.T) {
	p := &Pair{}
	for _, end := range append(noEnds(), 0, 1) {
		is(t, p.Send(end, []byte("x")), api.ErrArg)
		is(t, p.Come(end, 0), api.ErrArg)
		is(t, p.Lose(end, 0), api.ErrArg)
		is(t, p.Twice(end, 0), api.ErrArg)
		polls(t, p, end)
	}
	p.Tick()
	flights(t, p, 0, 0)
	if p.Idle() || p.End(0) != nil {
		t.Error("it has ends")
	}
}

// P35.4

// over writes over a list, to the end of its room.
func over(b []byte) {
	for all, i := b[:cap(b)], 0; i < len(all); i++ {
		all[i] = 'z'
	}
}

func TestNothingIsKeptOrShared(t *testing.T) {
	p := pair(t, 2, 4, 2, [2]seq.Num{65535, 7}, 5)
	for _, m := range []string{"one", "two"} {
		for end := range 2 {
			text := append([]byte(m), 7, 7, 7, 7, 7, 7, 7, 7)
			want := slices.Clone(text)
			is(t, p.Send(end, text[:3]), api.OK)
			if !slices.Equal(text, want) {
				t.Fatalf("%v, want %v", text, want)
			}
			over(text)
		}
	}
	p.Tick()
	for end := range 2 {
		is(t, p.Twice(end, 0), api.OK)
		is(t, p.Come(end, 0), api.OK)
		is(t, p.Come(end, 0), api.OK)
	}
	p.Tick()
	p.Tick()
	for end := range 2 {
		a, _ := p.Poll(end)
		if string(a) != "one" {
			t.Fatalf("%q", a)
		}
		over(a)
		polls(t, p, end, "two")
		for p.Flights(end) > 0 {
			is(t, p.Come(end, 0), api.OK)
		}
		polls(t, p, end)
	}
}

// An empty message is a message.
func TestEmptyMessages(t *testing.T) {
	p := pair(t, 2, 2, 1, [2]seq.Num{}, 5)
	for end := range 2 {
		is(t, p.Send(end, nil), api.OK)
		is(t, p.Send(end, []byte{}), api.OK)
	}
	p.Tick()
	for end := range 2 {
		is(t, p.Come(end, 0), api.OK)
		is(t, p.Come(end, 0), api.OK)
		polls(t, p, end, "", "")
	}
}
