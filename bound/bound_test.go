package bound

import (
	"fmt"
	"math"
	"math/big"
	"math/rand/v2"
	"testing"

	"shuttle/ackmap"
	"shuttle/api"
	"shuttle/backoff"
	"shuttle/frame"
	"shuttle/run"
	"shuttle/sender"
	"shuttle/seq"
)

// far are numbers that are far beyond all limits.
func far() []int {
	return []int{1 << 31, 1 << 32, 1<<32 + 1, 1<<32 + 1000, 1 << 62, math.MaxInt, math.MaxInt - 1, math.MinInt, math.MinInt + 1, -1 << 32}
}

// P37.1, Ticks

func TestExample(t *testing.T) {
	if n, e := Ticks(1, 0); n != 288 || e != api.OK {
		t.Errorf("Ticks(1, 0) = %d, %d", n, e)
	}
	if n, e := Frames(1, 3); n != 5 || e != api.OK {
		t.Errorf("Frames(1, 3) = %d, %d", n, e)
	}
}

func TestTicks(t *testing.T) {
	for _, x := range []struct{ fair, n, want int }{
		{1, 1, 576}, {2, 0, 512}, {2, 3, 2048}, {3, 0, 800}, {8, 40, 131200}, {1000, 0, 32128128}, {1, 1000000, 288000288}, {1000, 1000000, 32128160128128},
	} {
		if n, e := Ticks(x.fair, x.n); n != x.want || e != api.OK {
			t.Errorf("Ticks(%d, %d) = %d, %d, want %d", x.fair, x.n, n, e, x.want)
		}
	}
	chance := rand.New(rand.NewPCG(37, 1))
	for range 20000 {
		fair, n := 1+chance.IntN(1000), chance.IntN(1000001)
		two := big.NewInt(int64(fair + 2))
		want := new(big.Int).Mul(new(big.Int).Mul(two, two), big.NewInt(int64(n+1)))
		want.Lsh(want, 5)
		if got, e := Ticks(fair, n); int64(got) != want.Int64() || e != api.OK {
			t.Fatalf("Ticks(%d, %d) = %d, %d, want %v", fair, n, got, e, want)
		}
	}
}

func TestWrongTicks(t *testing.T) {
	wrongFair, wrongN := append(far(), 0, -1, 1001, 1002), append(far(), -1, -2, 1000001, 1000002)
	wrong := func(fair, n int) {
		t.Helper()
		if got, e := Ticks(fair, n); got != 0 || e != api.ErrArg {
			t.Errorf("Ticks(%d, %d) = %d, %d, want 0 and ErrArg", fair, n, got, e)
		}
	}
	for _, fair := range wrongFair {
		for _, n := range append(wrongN, 0, 1, 1000000) {
			wrong(fair, n)
		}
	}
	for _, n := range wrongN {
		for _, fair := range []int{1, 2, 999, 1000} {
			wrong(fair, n)
		}
	}
}

// P37.1, Frames

func TestFrames(t *testing.T) {
	for _, x := range []struct{ size, ticks, want int }{
		{1, 0, 0}, {32, 0, 0}, {1, 1, 4}, {1, 2, 4}, {1, 4, 5}, {1, 6, 5}, {1, 7, 6}, {1, 14, 6}, {1, 15, 7}, {1, 30, 7}, {1, 31, 8}, {1, 46, 8}, {1, 47, 9},
		{2, 1, 8}, {2, 47, 18}, {3, 46, 24}, {32, 1, 128}, {32, 3, 160}, {32, 1000000, 2000192}, {1, 999999, 62506}, {1, 999998, 62505},
	} {
		if n, e := Frames(x.size, x.ticks); n != x.want || e != api.OK {
			t.Errorf("Frames(%d, %d) = %d, %d, want %d", x.size, x.ticks, n, e, x.want)
		}
	}
}

// Tick by tick all that goes out is counted.
func TestFramesTickByTick(t *testing.T) {
	each, tries, due := 0, 0, 1
	for tick := range 20001 {
		if tick == due {
			each++
			if tries == 0 {
				each = 4
			}
			tries++
			wait, _ := backoff.Wait(tries)
			due += wait
		}
		for _, size := range []int{1, 2, 31, 32} {
			if n, e := Frames(size, tick); n != size*each || e != api.OK {
				t.Fatalf("Frames(%d, %d) = %d, %d, want %d", size, tick, n, e, size*each)
			}
		}
	}
	for size := 1; size <= api.MaxWindow; size++ {
		for _, tick := range []int{0, 1, 15, 999, 1000000} {
			one, _ := Frames(1, tick)
			if n, e := Frames(size, tick); n != size*one || e != api.OK {
				t.Fatalf("Frames(%d, %d) = %d, %d, want %d", size, tick, n, e, size*one)
			}
		}
	}
}

func TestWrongFrames(t *testing.T) {
	wrongSize, wrongTicks := append(far(), 0, -1, 33, 34), append(far(), -1, -2, 1000001, 1000002)
	wrong := func(size, ticks int) {
		t.Helper()
		if got, e := Frames(size, ticks); got != 0 || e != api.ErrArg {
			t.Errorf("Frames(%d, %d) = %d, %d, want 0 and ErrArg", size, ticks, got, e)
		}
	}
	for _, size := range wrongSize {
		for _, ticks := range append(wrongTicks, 0, 1, 1000000) {
			wrong(size, ticks)
		}
	}
	for _, ticks := range wrongTicks {
		for _, size := range []int{1, 2, 31, 32} {
			wrong(size, ticks)
		}
	}
}

// P37.2

// foe lets come of each so many datagrams one as it was put: the last one of them, or, with chance, an earlier one.
// The others are lost, or turned, so that they are read no more.
type foe struct {
	fair, gap int
	chance    *rand.Rand
	turns     bool
}

// pass has all flights of one channel come, be lost or be turned.
func (f *foe) pass(s *run.System, there bool) {
	come, lose, turn, many := run.There, run.LoseThere, run.TurnThere, func() int { n, _ := s.Flights(); return n }
	if !there {
		come, lose, turn, many = run.Back, run.LoseBack, run.TurnBack, func() int { _, n := s.Flights(); return n }
	}
	for many() > 0 {
		f.gap++
		if f.gap >= f.fair || f.chance != nil && f.chance.IntN(f.fair) == 0 {
			f.gap = 0
			s.Do(run.Step{Kind: come})
			continue
		}
		if f.turns {
			s.Do(run.Step{Kind: turn, At: []int{20}})
			s.Do(run.Step{Kind: come})
			continue
		}
		s.Do(run.Step{Kind: lose})
	}
}

// lasts fails unless behind Ticks all of so many messages are delivered, and none is kept.
func lasts(t *testing.T, c run.Config, there, back *foe, n int) {
	t.Helper()
	limit, e := Ticks(there.fair, n)
	s, no := run.New(c)
	if e != api.OK || no != api.OK {
		t.Fatal(e, no)
	}
	from, _ := s.Ends()
	for sent := 0; sent < n || !from.Idle() || len(s.Delivered()) < n; {
		if from.Sender().Now() >= limit {
			t.Fatalf("%v: behind %d ticks, where of each %d one comes, %d of %d are delivered", c, limit, there.fair, len(s.Delivered()), n)
		}
		for sent < n {
			if _, full := s.Do(run.Step{Kind: run.Send, Bytes: fmt.Append(nil, sent)}); full != api.OK {
				break
			}
			sent++
		}
		s.Do(run.Step{Kind: run.Tick})
		there.pass(s, true)
		back.pass(s, false)
		for e := api.OK; e == api.OK; {
			_, e = s.Do(run.Step{Kind: run.Poll})
		}
	}
	for i, b := range s.Delivered() {
		if string(b) != fmt.Sprint(i) {
			t.Fatalf("message %d is %q", i, b)
		}
	}
}

func TestBehindTicksAllIsDelivered(t *testing.T) {
	for _, w := range []api.Window{{Size: 1, Queue: 1, Pool: 1}, {Size: 2, Queue: 3, Pool: 1}, {Size: 4, Queue: 8, Pool: 2}, {Size: 32, Queue: 64, Pool: 16}} {
		for _, fair := range []int{1, 2, 3, 4, 7, 20} {
			for _, n := range []int{0, 1, 2, 30} {
				for _, turns := range []bool{false, true} {
					c := run.Config{Window: w, First: 65530, Age: 1}
					lasts(t, c, &foe{fair: fair, turns: turns}, &foe{fair: fair, turns: turns}, n)
					chance := rand.New(rand.NewPCG(37, uint64(fair)))
					lasts(t, c, &foe{fair: fair, turns: turns, chance: chance}, &foe{fair: fair, turns: turns, chance: chance}, n)
				}
			}
		}
	}
}

// P37.3

// starter is a sender on which things went as badly as can be: the first try of a message has four frames. It keeps none.
func starter(t *testing.T, size int) *sender.Sender {
	t.Helper()
	s, e := sender.New(65500, api.Window{Size: size, Queue: 64})
	for range 2 {
		if e == api.OK {
			e = s.Send(nil)
		}
		// The third try is at the seventh tick.
		for range 7 {
			s.Tick()
		}
		if e == api.OK {
			e = s.Acked(ackmap.Map{Base: seq.Plus(s.Base(), 1)})
		}
	}
	if e != api.OK || s.Policy().Level != 2 || s.Kept() != 0 {
		t.Fatalf("%d, level %d, %d are kept", e, s.Policy().Level, s.Kept())
	}
	return s
}

func TestASenderWithAllUnderWaySendsFrames(t *testing.T) {
	for _, size := range []int{1, 2, 7, 32} {
		bad := starter(t, size)
		good, _ := sender.New(7, api.Window{Size: size, Queue: 64})
		for range 64 {
			bad.Send(nil)
			good.Send(nil)
		}
		most, few := 0, 0
		for tick := 1; tick <= 300; tick++ {
			most += len(bad.Tick())
			few += len(good.Tick())
			want, e := Frames(size, tick)
			if most != want || few != want-3*size || e != api.OK {
				t.Fatalf("of %d under way %d and %d go out in %d ticks, Frames says %d, %d", size, most, few, tick, want, e)
			}
		}
	}
}

// Messages are sent at any tick, and none is acked.
func TestNoSenderSendsMore(t *testing.T) {
	chance := rand.New(rand.NewPCG(37, 3))
	for range 200 {
		size := 1 + chance.IntN(32)
		s := starter(t, size)
		if chance.IntN(2) == 0 {
			s, _ = sender.New(9, api.Window{Size: size, Queue: 64})
		}
		out := 0
		for tick := 1; tick <= 200; tick++ {
			for chance.IntN(4) == 0 {
				s.Send(nil)
			}
			out += len(s.Tick())
			if most, e := Frames(size, tick); out > most || e != api.OK {
				t.Fatalf("of %d under way %d go out in %d ticks, Frames says %d, %d", size, out, tick, most, e)
			}
		}
	}
}

// Of each message by itself no more goes out than of one alone, from its first try on, whatever is acked.
func TestOfEachMessageNoMoreGoesOut(t *testing.T) {
	chance := rand.New(rand.NewPCG(37, 4))
	for range 30 {
		s := starter(t, 1+chance.IntN(8))
		since, out := map[seq.Num]int{}, map[seq.Num]int{}
		for tick := range 400 {
			for chance.IntN(3) > 0 {
				s.Send(nil)
			}
			for _, b := range s.Tick() {
				f, e := frame.Read(b)
				if e != api.OK {
					t.Fatal(e)
				}
				if out[f.Seq] == 0 {
					since[f.Seq] = tick
				}
				out[f.Seq]++
				if most, _ := Frames(1, tick-since[f.Seq]+1); out[f.Seq] > most {
					t.Fatalf("of message %d %d frames go out in %d ticks, Frames says %d", f.Seq, out[f.Seq], tick-since[f.Seq]+1, most)
				}
			}
			if chance.IntN(12) == 0 {
				s.Acked(ackmap.Map{Base: seq.Plus(s.Base(), chance.IntN(2)), More: chance.Uint32() & 3})
			}
		}
		if len(out) < 10 {
			t.Errorf("%d messages alone", len(out))
		}
	}
}
