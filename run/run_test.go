package run

import (
	"math"
	"slices"
	"testing"

	"shuttle/ackmap"
	"shuttle/api"
	"shuttle/frame"
	"shuttle/harq"
	"shuttle/link"
	"shuttle/seq"
)

// by is the number so far ahead of a, or before it, in ints that don't come round by themselves.
func by(a seq.Num, n int) seq.Num { return seq.Num(((int(a)+n)%65536 + 65536) % 65536) }

// bases are numbers at both ends, at the middle, and near them.
func bases() []seq.Num { return []seq.Num{0, 1, 1000, 32767, 32768, 65534, 65535} }

// system is a new one.
func system(t *testing.T, size, queue, pool int, first seq.Num, age int) *System {
	t.Helper()
	s, e := New(Config{Window: api.Window{Size: size, Queue: queue, Pool: pool}, First: first, Age: age})
	if s == nil || e != api.OK {
		t.Fatalf("New(%d, %d, %d, %d, %d) = %v, %d", size, queue, pool, first, age, s, e)
	}
	return s
}

// data is version v of a message, as it is sent.
func data(a seq.Num, v int, message string) []byte {
	parts, _ := harq.Versions([]byte(message))
	b, _ := frame.Write(frame.Frame{Kind: frame.Data, Seq: a, Version: v, Len: len(message), Body: parts[v]})
	return b
}

// ack is what tells that all before base has come, and of those behind it the ones of more.
func ack(base seq.Num, more uint32) []byte {
	b, _ := frame.Write(frame.Frame{Kind: frame.Ack, Map: ackmap.Map{Base: base, More: more}})
	return b
}

// unlike are the places of the bits at which two datagrams are unlike.
func unlike(a, b []byte) []int {
	var at []int
	for i := range 8 * min(len(a), len(b)) {
		if (a[i/8]^b[i/8])>>(7-i%8)&1 == 1 {
			at = append(at, i)
		}
	}
	return at
}

// does fails unless a step, which is no Poll with a message, is answered by that error.
func does(t *testing.T, s *System, x Step, want api.Errno) {
	t.Helper()
	if b, e := s.Do(x); e != want || len(b) != 0 {
		t.Fatalf("Do(%v) = %q, %d, want %d", x, b, e, want)
	}
}

// goes has all these steps done, which mustn't be refused.
func goes(t *testing.T, s *System, l ...Step) {
	t.Helper()
	for _, x := range l {
		does(t, s, x, api.OK)
	}
}

// kind is a step of that kind, and of the k-th flight.
func kind(kind, k int) Step { return Step{Kind: kind, K: k} }

// send is a step that sends a text.
func send(text string) Step { return Step{Kind: Send, Bytes: []byte(text)} }

// flights fails unless so many are under way.
func flights(t *testing.T, s *System, there, back int) {
	t.Helper()
	if a, b := s.Flights(); a != there || b != back {
		t.Fatalf("%d there, %d back, want %d, %d", a, b, there, back)
	}
}

// polls fails unless just these messages are polled, and none behind them.
func polls(t *testing.T, s *System, want ...string) {
	t.Helper()
	for _, x := range want {
		if b, e := s.Do(kind(Poll, 0)); e != api.OK || string(b) != x {
			t.Fatalf("Poll: %q, %d, want %q", b, e, x)
		}
	}
	does(t, s, kind(Poll, 0), api.ErrMiss)
}

// texts fails unless a list is of these texts.
func texts(t *testing.T, got [][]byte, want ...string) {
	t.Helper()
	if !slices.EqualFunc(got, want, func(b []byte, x string) bool { return string(b) == x }) {
		t.Fatalf("%q, want %q", got, want)
	}
}

// P27.1

func TestNew(t *testing.T) {
	far := []int{1 << 32, 1<<32 + 1, math.MaxInt, math.MinInt}
	for _, size := range append([]int{-1, 0, 1, 32, 33}, far...) {
		for _, queue := range append([]int{0, 1, 31, 32, 64, 65}, far...) {
			for _, pool := range append([]int{0, 1, 16, 17}, far...) {
				for _, age := range append([]int{-1, 0, 1, 2, 999, 1000, 1001}, far...) {
					c := Config{Window: api.Window{Size: size, Queue: queue, Pool: pool}, First: 65535, Age: age}
					s, e := New(c)
					if size < 1 || size > 32 || queue < size || queue > 64 || pool < 1 || pool > 16 || age < 1 || age > 1000 {
						if s != nil || e != api.ErrArg {
							t.Fatalf("New(%v) = %v, %d, want nothing and ErrArg", c, s, e)
						}
						continue
					}
					if s == nil || e != api.OK || len(s.Accepted()) != 0 || len(s.Delivered()) != 0 || s.Altered() {
						t.Fatalf("New(%v) = %v, %d", c, s, e)
					}
					flights(t, s, 0, 0)
				}
			}
		}
	}
}

func TestTheEndsOfANewOne(t *testing.T) {
	for _, first := range bases() {
		s := system(t, 2, 3, 1, first, 5)
		from, to := s.Ends()
		if from == nil || to == nil || from == to {
			t.Fatal("there aren't two ends")
		}
		if from.Sender().Base() != first || from.Receiver().Base() != 0 || to.Sender().Base() != 0 || to.Receiver().Base() != first {
			t.Errorf("from %d: the numbers are other ones", first)
		}
		// Both have the window.
		for _, e := range []*link.End{from, to} {
			for i := range 4 {
				if no := e.Send(nil); (no == api.ErrFull) != (i == 3) {
					t.Errorf("Send %d: %d", i, no)
				}
			}
			if n := len(e.Sender().Under()); n != 2 {
				t.Errorf("%d are under way", n)
			}
			e.OnDatagram(data(by(e.Receiver().Base(), 2), 0, "m"))
			if e.Counts().Far != 1 {
				t.Errorf("%v", e.Counts())
			}
		}
		if a, b := s.Ends(); a != from || b != to {
			t.Error("there are other ends")
		}
	}
}

func TestExample(t *testing.T) {
	for _, first := range bases() {
		s := system(t, 1, 1, 1, first, 1)
		goes(t, s, send("hi"))
		flights(t, s, 0, 0)
		goes(t, s, kind(Tick, 0))
		flights(t, s, 1, 0)
		goes(t, s, kind(There, 0))
		flights(t, s, 0, 1)
		if from, _ := s.Ends(); from.Idle() {
			t.Error("the sender keeps none, ahead of the ack")
		}
		goes(t, s, kind(Back, 0))
		flights(t, s, 0, 0)
		polls(t, s, "hi")
		texts(t, s.Accepted(), "hi")
		texts(t, s.Delivered(), "hi")
		if from, to := s.Ends(); !from.Idle() || !to.Idle() || s.Altered() {
			t.Error("the sender keeps something")
		}
	}
}

func TestSend(t *testing.T) {
	s := system(t, 1, 2, 1, 7, 5)
	long := string(make([]byte, 65))
	does(t, s, send(long), api.ErrLong)
	texts(t, s.Accepted())
	goes(t, s, send("a"))
	does(t, s, send(long), api.ErrLong)
	goes(t, s, send(""))
	does(t, s, send("c"), api.ErrFull)
	does(t, s, send(long), api.ErrLong)
	texts(t, s.Accepted(), "a", "")
	goes(t, s, kind(Tick, 0), kind(There, 0), kind(Back, 0), send(long[1:]))
	texts(t, s.Accepted(), "a", "", long[1:])
	texts(t, s.Delivered())
	from, to := s.Ends()
	if from.Counts().Refused != 4 || to.Counts().Refused != 0 {
		t.Errorf("%v, %v", from.Counts(), to.Counts())
	}
}

// Both channels are a step on ahead of what goes out: of the age 1 the frames of the tick ahead are gone, new ones not.
func TestTick(t *testing.T) {
	s := system(t, 2, 2, 1, 65535, 1)
	from, to := s.Ends()
	goes(t, s, send("a"), send("b"), Step{Kind: ForgeBack, Bytes: []byte("x")}, Step{Kind: ForgeThere, Bytes: []byte("y")})
	to.Send([]byte("c"))
	flights(t, s, 1, 1)
	goes(t, s, kind(Tick, 0))
	flights(t, s, 2, 1)
	if from.Sender().Now() != 1 || to.Sender().Now() != 1 || from.Counts().Sent != 2 || to.Counts().Sent != 1 {
		t.Errorf("%v at %d, %v at %d", from.Counts(), from.Sender().Now(), to.Counts(), to.Sender().Now())
	}
	// They are in order, and what the other end sends goes back.
	goes(t, s, kind(LoseThere, 1), kind(There, 0), kind(LoseBack, 1))
	if to.Receiver().Base() != 0 {
		t.Errorf("the first one that went there wasn't the first one: %v", to.Counts())
	}
	goes(t, s, kind(Back, 0))
	flights(t, s, 1, 0)
	if m, ok := from.Poll(); !ok || string(m) != "c" {
		t.Errorf("%q, %v came back", m, ok)
	}
	goes(t, s, kind(Tick, 0))
	flights(t, s, 0, 0)
	goes(t, s, kind(Tick, 0))
	flights(t, s, 2, 1)
}

func TestAge(t *testing.T) {
	for _, age := range []int{1, 2, 5, 1000} {
		s := system(t, 1, 1, 1, 0, age)
		goes(t, s, Step{Kind: ForgeBack, Bytes: []byte("x")}, Step{Kind: ForgeThere, Bytes: []byte("y")})
		for range age - 1 {
			goes(t, s, kind(Tick, 0))
			flights(t, s, 1, 1)
		}
		goes(t, s, Step{Kind: ForgeThere, Bytes: []byte("z")})
		flights(t, s, 2, 1)
		goes(t, s, kind(Tick, 0))
		if age == 1 {
			flights(t, s, 0, 0)
			continue
		}
		flights(t, s, 1, 0)
	}
}

// Each kind does its thing on its own channel, to the flight of its place.
func TestEachChannel(t *testing.T) {
	put := func(s *System) {
		for _, b := range []string{"a", "b", "c"} {
			goes(t, s, Step{Kind: ForgeThere, Bytes: []byte(b)})
		}
		for _, b := range []string{"d", "e"} {
			goes(t, s, Step{Kind: ForgeBack, Bytes: []byte(b)})
		}
		flights(t, s, 3, 2)
	}
	for _, x := range []struct{ kind, there, back int }{
		{There, 2, 2}, {Back, 3, 1}, {LoseThere, 2, 2}, {LoseBack, 3, 1}, {TwiceThere, 4, 2}, {TwiceBack, 3, 3}, {TurnThere, 3, 2}, {TurnBack, 3, 2},
	} {
		count := 3
		if x.kind%2 == 0 {
			count = 2
		}
		for k := range count {
			s := system(t, 1, 1, 1, 0, 5)
			put(s)
			goes(t, s, kind(x.kind, k))
			flights(t, s, x.there, x.back)
		}
		for _, k := range []int{-1, count, 7, 1 << 32, math.MaxInt, math.MinInt} {
			s := system(t, 1, 1, 1, 0, 5)
			put(s)
			does(t, s, Step{Kind: x.kind, K: k, At: []int{0}}, api.ErrMiss)
			flights(t, s, 3, 2)
			from, to := s.Ends()
			if from.Counts() != (link.Counts{}) || to.Counts() != (link.Counts{}) {
				t.Error("something came")
			}
		}
	}
}

// What comes there comes to the other end, and its ack goes back; what comes back comes to the sender's, and goes there.
func TestThereAndBack(t *testing.T) {
	s := system(t, 2, 2, 2, 100, 5)
	from, to := s.Ends()
	goes(t, s, Step{Kind: ForgeThere, Bytes: data(100, 1, "x")}, Step{Kind: ForgeThere, Bytes: []byte{1}}, Step{Kind: ForgeThere, Bytes: ack(0, 0)})
	goes(t, s, kind(There, 1))
	flights(t, s, 2, 0)
	goes(t, s, kind(There, 1))
	flights(t, s, 1, 0)
	goes(t, s, kind(There, 0))
	flights(t, s, 0, 1)
	if want := (link.Counts{Bad: 1, Acks: 1, Read: 1}); to.Counts() != want || from.Counts() != (link.Counts{}) {
		t.Errorf("%v, %v", to.Counts(), from.Counts())
	}
	goes(t, s, kind(LoseBack, 0))
	goes(t, s, Step{Kind: ForgeBack, Bytes: data(0, 1, "y")}, Step{Kind: ForgeBack, Bytes: []byte{1}}, Step{Kind: ForgeBack, Bytes: ack(100, 0)})
	goes(t, s, kind(Back, 2), kind(Back, 1))
	flights(t, s, 0, 1)
	goes(t, s, kind(Back, 0))
	flights(t, s, 1, 0)
	if want := (link.Counts{Bad: 1, Acks: 1, Read: 1}); from.Counts() != want {
		t.Errorf("%v", from.Counts())
	}
	// It tells of a message that the other end didn't send.
	goes(t, s, kind(There, 0))
	if want := (link.Counts{Bad: 1, Acks: 2, Far: 1, Read: 1}); to.Counts() != want {
		t.Errorf("%v", to.Counts())
	}
	polls(t, s, "x")
	texts(t, s.Delivered(), "x")
	texts(t, s.Accepted())
}

func TestTwiceAndTurn(t *testing.T) {
	s := system(t, 1, 1, 1, 9, 5)
	from, to := s.Ends()
	goes(t, s, send("m"), kind(Tick, 0), kind(TwiceThere, 0), Step{Kind: TurnThere, K: 0, At: []int{20}})
	goes(t, s, kind(There, 0), kind(There, 0))
	if want := (link.Counts{Bad: 1, Read: 1}); to.Counts() != want {
		t.Errorf("%v", to.Counts())
	}
	goes(t, s, kind(TwiceBack, 0), Step{Kind: TurnBack, K: 1, At: []int{3, 3, 3}}, kind(Back, 1), kind(Back, 0))
	if want := (link.Counts{Sent: 1, Bad: 1, Acks: 1}); from.Counts() != want {
		t.Errorf("%v", from.Counts())
	}
	flights(t, s, 0, 0)
}

func TestNoMoreThan4096(t *testing.T) {
	s := system(t, 2, 2, 1, 9, 2)
	for _, x := range []struct{ forge, twice int }{{ForgeThere, TwiceThere}, {ForgeBack, TwiceBack}} {
		for range 4095 {
			goes(t, s, Step{Kind: x.forge, Bytes: []byte("x")})
		}
		goes(t, s, kind(x.twice, 4094))
		does(t, s, kind(x.twice, 0), api.ErrFull)
		does(t, s, kind(x.twice, 4096), api.ErrMiss)
		goes(t, s, Step{Kind: x.forge, Bytes: []byte("x")})
	}
	flights(t, s, 4096, 4096)
	// There is room for one of the two frames, and for no ack.
	goes(t, s, kind(LoseThere, 5), send("a"), send("b"), kind(Tick, 0))
	flights(t, s, 4096, 4096)
	goes(t, s, kind(There, 4095))
	flights(t, s, 4095, 4096)
	polls(t, s, "a")
	goes(t, s, kind(Tick, 0))
	flights(t, s, 0, 0)
}

func TestPoll(t *testing.T) {
	s := system(t, 4, 4, 1, 65534, 5)
	polls(t, s)
	texts(t, s.Delivered())
	for _, m := range []string{"a", "", "c"} {
		goes(t, s, send(m))
	}
	goes(t, s, kind(Tick, 0), kind(There, 2))
	polls(t, s)
	goes(t, s, kind(There, 0))
	polls(t, s, "a")
	texts(t, s.Delivered(), "a")
	goes(t, s, kind(There, 0))
	polls(t, s, "", "c")
	texts(t, s.Delivered(), "a", "", "c")
	texts(t, s.Accepted(), "a", "", "c")
}

func TestAnotherKind(t *testing.T) {
	s := system(t, 2, 2, 2, 65534, 5)
	goes(t, s, send("a"), kind(Tick, 0), kind(TwiceThere, 0), kind(There, 0))
	for _, k := range []int{0, -1, 14, 15, 16, 255, 256, 1<<32 + 1, 1<<32 + 13, math.MaxInt, math.MinInt} {
		does(t, s, Step{Kind: k, Bytes: []byte("x"), At: []int{0}}, api.ErrKind)
		does(t, s, Step{Kind: k, K: -1}, api.ErrKind)
	}
	flights(t, s, 1, 1)
	from, to := s.Ends()
	if from.Counts() != (link.Counts{Sent: 1}) || to.Counts() != (link.Counts{Read: 1}) || from.Sender().Now() != 1 {
		t.Errorf("%v, %v", from.Counts(), to.Counts())
	}
}

// What a kind doesn't have isn't looked at.
func TestWhatAKindDoesNotHave(t *testing.T) {
	s := system(t, 2, 2, 2, 65534, 5)
	long, at := make([]byte, 100), []int{-1, 0, math.MaxInt}
	goes(t, s, Step{Kind: Send, K: -1, Bytes: []byte("a"), At: at}, Step{Kind: Tick, K: -1, Bytes: long, At: at})
	goes(t, s, Step{Kind: TwiceThere, Bytes: long, At: at}, Step{Kind: TurnThere, Bytes: long, At: []int{20}}, Step{Kind: LoseThere, Bytes: long, At: at}, Step{Kind: There, Bytes: long, At: at})
	goes(t, s, Step{Kind: TwiceBack, Bytes: long, At: at}, Step{Kind: TurnBack, Bytes: long, At: []int{20}}, Step{Kind: LoseBack, Bytes: long, At: at}, Step{Kind: Back, Bytes: long, At: at})
	goes(t, s, Step{Kind: ForgeThere, K: -1, Bytes: []byte("a"), At: at}, Step{Kind: ForgeBack, K: -1, Bytes: []byte("a"), At: at})
	flights(t, s, 1, 1)
	from, to := s.Ends()
	if from.Counts() != (link.Counts{Sent: 1, Acks: 1}) || to.Counts() != (link.Counts{Read: 1}) || s.Altered() {
		t.Errorf("%v, %v", from.Counts(), to.Counts())
	}
	if b, e := s.Do(Step{Kind: Poll, K: -1, Bytes: long, At: at}); string(b) != "a" || e != api.OK {
		t.Errorf("%q, %d", b, e)
	}
}

// turns is a system on which a flight is turned at some places, there or back, and comes.
func turns(t *testing.T, b []byte, at []int, there bool) *System {
	t.Helper()
	s := system(t, 4, 4, 2, 500, 5)
	forge, turn, come := ForgeThere, TurnThere, There
	if !there {
		forge, turn, come = ForgeBack, TurnBack, Back
	}
	goes(t, s, Step{Kind: forge, Bytes: b}, Step{Kind: turn, At: at})
	if s.Altered() {
		t.Fatal("it is altered ahead of coming")
	}
	goes(t, s, kind(come, 0))
	return s
}

func TestAltered(t *testing.T) {
	hi, other := data(500, 0, "hi"), data(501, 0, "hi")
	version, longer := data(500, 2, "hi"), data(500, 0, "hey")
	told, more := ack(500, 0), ack(502, 5)
	head := slices.Concat(other[:6], hi[6:])
	for i, x := range []struct {
		b    []byte
		at   []int
		want bool
	}{
		// As it was put, and of the body alone; also one that is read as no message.
		{hi, nil, false}, {hi, []int{48}, false}, {hi, []int{48, 60, 70, 80, 90, 91, 92, 93, 94, 95, 96}, false}, {told, nil, false},
		// A head that doesn't pass, or passes, and what is behind it is no body; what is turned, and turned back.
		{hi, []int{47}, false}, {hi, []int{0}, false}, {told, []int{71}, false}, {hi, append(unlike(hi, other), 102), false}, {hi, unlike(hi, longer[:6]), false},
		{hi, []int{31, 47, 31, 47}, false}, {hi, slices.Concat(unlike(hi, head), unlike(hi, head)), false},
		// A head that passes.
		{hi, unlike(hi, head), true}, {hi, append(unlike(hi, head), 50), true}, {hi, unlike(hi, version), true}, {told, unlike(told, more), true},
		// What wasn't read as put, and is a frame now, is one whose head isn't as it was.
		{slices.Concat([]byte{hi[0] ^ 128}, hi[1:]), []int{0}, true}, {slices.Concat(hi[:5], []byte{hi[5] ^ 1}, hi[6:]), []int{47}, true}, {slices.Concat(told[:8], []byte{told[8] ^ 1}), []int{71}, true},
		// Of what is behind the body one bit was put in, and turned away: the head is as it was.
		{slices.Concat(hi[:12], []byte{hi[12] ^ 1}), []int{103}, false},
		// What isn't a frame.
		{nil, []int{0}, false}, {[]byte("x"), []int{0, 1, 2}, false},
	} {
		for _, there := range []bool{true, false} {
			if s := turns(t, x.b, x.at, there); s.Altered() != x.want {
				t.Errorf("case %d, there %v: altered %v", i, there, s.Altered())
			}
		}
	}
}

// It counts which one comes, and for ever.
func TestAlteredStays(t *testing.T) {
	hi, other := data(500, 0, "hi"), data(501, 0, "hi")
	at := unlike(hi[:6], other[:6])
	s := system(t, 4, 4, 2, 500, 2)
	forge, turn := Step{Kind: ForgeThere, Bytes: hi}, Step{Kind: TurnThere, At: at}
	// One is lost, one too old, and one turned back.
	goes(t, s, forge, turn, kind(LoseThere, 0), forge, turn, kind(Tick, 0), kind(Tick, 0), forge, turn, turn, kind(There, 0))
	if s.Altered() {
		t.Fatal("what didn't come is altered")
	}
	// Of two, one is turned.
	goes(t, s, forge, kind(TwiceThere, 0), turn, kind(There, 1))
	if s.Altered() {
		t.Fatal("the other one is altered")
	}
	goes(t, s, kind(There, 0))
	for range 3 {
		if !s.Altered() {
			t.Fatal("it isn't altered")
		}
		goes(t, s, forge, kind(There, 0), kind(Tick, 0))
	}
}

// A forged frame is none that was turned.
func TestForgedIsNotAltered(t *testing.T) {
	s := system(t, 4, 4, 2, 500, 2)
	goes(t, s, Step{Kind: ForgeThere, Bytes: data(500, 0, "lie")}, Step{Kind: ForgeBack, Bytes: ack(501, 0)}, kind(There, 0), kind(Back, 0))
	if s.Altered() {
		t.Error("it is altered")
	}
	polls(t, s, "lie")
}

func TestNilSystem(t *testing.T) {
	var s *System
	for k := -1; k < 16; k++ {
		does(t, s, Step{Kind: k, Bytes: []byte("x"), At: []int{0}}, api.ErrArg)
		does(t, s, Step{Kind: k, K: -1}, api.ErrArg)
	}
	if len(s.Accepted()) != 0 || len(s.Delivered()) != 0 || s.Altered() {
		t.Error("a nil system has something")
	}
	flights(t, s, 0, 0)
	if a, b := s.Ends(); a != nil || b != nil {
		t.Error("a nil system has ends")
	}
}

func TestASystemThatNewDidNotMake(t *testing.T) {
	s := &System{}
	for k, want := range []api.Errno{
		0: api.ErrKind, Send: api.ErrArg, Tick: api.OK, There: api.ErrArg, Back: api.ErrArg, LoseThere: api.ErrArg, LoseBack: api.ErrArg,
		TwiceThere: api.ErrArg, TwiceBack: api.ErrArg, TurnThere: api.ErrArg, TurnBack: api.ErrArg, ForgeThere: api.OK, ForgeBack: api.OK, Poll: api.ErrMiss,
	} {
		does(t, s, Step{Kind: k, Bytes: []byte("x")}, want)
	}
	if len(s.Accepted()) != 0 || len(s.Delivered()) != 0 || s.Altered() {
		t.Error("it has something")
	}
	flights(t, s, 0, 0)
}

// P27.5

// over writes over a list, to the end of its room.
func over(b []byte) {
	for all, i := b[:cap(b)], 0; i < len(all); i++ {
		all[i] = 'z'
	}
}

// fresh does a step with room behind its lists, which mustn't be changed, and writes over all of it behind the step.
func fresh(t *testing.T, s *System, x Step) []byte {
	t.Helper()
	text := append(slices.Clone(x.Bytes), 7, 7, 7, 7, 7, 7, 7, 7)
	places := append(slices.Clone(x.At), 7, 7, 7, 7)
	wantText, wantPlaces := slices.Clone(text), slices.Clone(places)
	x.Bytes, x.At = text[:len(x.Bytes)], places[:len(x.At)]
	b, e := s.Do(x)
	if e != api.OK || !slices.Equal(text, wantText) || !slices.Equal(places, wantPlaces) {
		t.Fatalf("Do(%v): %d, %v, %v", x, e, text, places)
	}
	over(text)
	clear(places)
	return b
}

func TestNothingIsKeptOrShared(t *testing.T) {
	s := system(t, 2, 4, 2, 65535, 5)
	for _, m := range []string{"one", "two"} {
		fresh(t, s, send(m))
	}
	fresh(t, s, Step{Kind: ForgeThere, Bytes: data(1, 0, "three")})
	fresh(t, s, Step{Kind: TurnThere, At: []int{70}})
	fresh(t, s, kind(Tick, 0))
	for _, x := range []Step{kind(There, 2), kind(TwiceThere, 0), kind(Tick, 0), kind(There, 1), kind(There, 1), kind(There, 0)} {
		fresh(t, s, x)
	}
	flights(t, s, 0, 4)
	for _, want := range []string{"one", "two"} {
		m := fresh(t, s, kind(Poll, 0))
		if string(m) != want {
			t.Fatalf("%q, want %q", m, want)
		}
		over(m)
	}
	for range 2 {
		for _, l := range [][][]byte{s.Accepted(), s.Delivered()} {
			for i, want := range []string{"one", "two"} {
				if string(l[i]) != want {
					t.Fatalf("%q, want %q", l, want)
				}
				over(l[i])
			}
			clear(l)
		}
	}
}

// An empty message is a message.
func TestEmptyMessages(t *testing.T) {
	s := system(t, 2, 4, 2, 65535, 5)
	goes(t, s, Step{Kind: Send}, Step{Kind: Send, Bytes: []byte{}}, kind(Tick, 0), kind(There, 0), kind(There, 0))
	polls(t, s, "", "")
	texts(t, s.Accepted(), "", "")
	texts(t, s.Delivered(), "", "")
}
