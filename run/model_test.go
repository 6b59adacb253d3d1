package run

import (
	"bytes"
	"math/rand/v2"
	"slices"
	"testing"

	"shuttle/ackmap"
	"shuttle/api"
	"shuttle/channel"
	"shuttle/frame"
	"shuttle/link"
	"shuttle/seq"
)

// model is two ends and the channels to them by place: 0 is the sender's, 1 the other one.
type model struct {
	ends      [2]*link.End
	to        [2]*channel.Channel
	sent, got []string
	altered   bool
}

func newModel(c Config) *model {
	m := &model{}
	m.ends[0], _ = link.New(link.Config{Window: c.Window, Out: c.First})
	m.ends[1], _ = link.New(link.Config{Window: c.Window, In: c.First})
	for i := range m.to {
		m.to[i], _ = channel.New(c.Age)
	}
	return m
}

func (m *model) do(x Step) (string, api.Errno) {
	// Of each pair of kinds the first one is of the channel to the other end.
	to := x.Kind % 2
	switch {
	case x.Kind == 1:
		e := m.ends[0].Send(x.Bytes)
		if e == api.OK {
			m.sent = append(m.sent, string(x.Bytes))
		}
		return "", e
	case x.Kind == 2:
		for i := range m.to {
			m.to[1-i].Step()
		}
		for i := range m.ends {
			for _, b := range m.ends[i].Tick() {
				m.to[1-i].Put(b)
			}
		}
		return "", api.OK
	case x.Kind == 3 || x.Kind == 4:
		f, e := m.to[to].Take(x.K)
		if e != api.OK {
			return "", e
		}
		m.come(f)
		for _, b := range m.ends[to].OnDatagram(f.Bytes) {
			m.to[1-to].Put(b)
		}
		return "", api.OK
	case x.Kind == 5 || x.Kind == 6:
		return "", m.to[to].Lose(x.K)
	case x.Kind == 7 || x.Kind == 8:
		return "", m.to[to].Twice(x.K)
	case x.Kind == 9 || x.Kind == 10:
		return "", m.to[to].Turn(x.K, x.At)
	case x.Kind == 11 || x.Kind == 12:
		m.to[to].Put(x.Bytes)
		return "", api.OK
	case x.Kind == 13:
		b, ok := m.ends[1].Poll()
		if !ok {
			return "", api.ErrMiss
		}
		m.got = append(m.got, string(b))
		return string(b), api.OK
	}
	return "", api.ErrKind
}

func (m *model) come(f channel.Flight) {
	x, e := frame.Read(f.Bytes)
	if e != api.OK {
		return
	}
	head := 6
	if x.Kind == frame.Ack {
		head = 9
	}
	for i := range head {
		if f.Bytes[i] != f.Was[i] {
			m.altered = true
		}
	}
}

// same fails unless a system and a model tell the same.
func same(t *testing.T, s *System, m *model) {
	t.Helper()
	for i, e := range ends(s) {
		w := m.ends[i]
		if e.Counts() != w.Counts() || e.Idle() != w.Idle() || e.Receiver().Map() != w.Receiver().Map() || e.Sender().Base() != w.Sender().Base() || e.Sender().Now() != w.Sender().Now() {
			t.Fatalf("end %d: %+v, want %+v", i, e.Counts(), w.Counts())
		}
	}
	flights(t, s, m.to[1].Len(), m.to[0].Len())
	if s.Altered() != m.altered {
		t.Fatalf("altered %v, want %v", s.Altered(), m.altered)
	}
}

func ends(s *System) []*link.End {
	from, to := s.Ends()
	return []*link.End{from, to}
}

// keeps fails if one of the ends keeps more than it may.
func keeps(t *testing.T, s *System, w api.Window) {
	t.Helper()
	for _, e := range ends(s) {
		if a, b, c := e.Sender().Kept(), len(e.Sender().Under()), e.Receiver().Buffers(); a > w.Queue || b > w.Size || c > w.Pool {
			t.Fatalf("%d kept, %d under way, %d buffers of %v", a, b, c, w)
		}
	}
	if there, back := s.Flights(); there > 4096 || back > 4096 {
		t.Fatalf("%d there, %d back", there, back)
	}
}

// begins fails unless what was delivered is a beginning of what was accepted, and the sender keeps all that isn't
// polled, or waiting to be.
func begins(t *testing.T, s *System) {
	t.Helper()
	from, to := s.Ends()
	accepted, delivered := s.Accepted(), s.Delivered()
	if len(delivered) > len(accepted) || !slices.EqualFunc(delivered, accepted[:len(delivered)], bytes.Equal) {
		t.Fatalf("%q is delivered of %q", delivered, accepted)
	}
	come := len(delivered) + to.Receiver().Waiting()
	if come > len(accepted) || len(accepted)-from.Sender().Kept() > come {
		t.Fatalf("%d accepted, %d kept, %d delivered, %d waiting", len(accepted), from.Sender().Kept(), len(delivered), to.Receiver().Waiting())
	}
}

// chances says which steps there may be: of those that turn, of those that forge, and of kinds there aren't.
type chances struct{ turn, forge, odd bool }

// someStep is any step: flights of all places are named, now and then one there isn't.
func someStep(chance *rand.Rand, s *System, c chances) Step {
	there, back := s.Flights()
	x := Step{Kind: []int{Send, Send, Tick, There, There, There, Back, Back, Back, LoseThere, LoseBack, TwiceThere, TwiceBack, Poll}[chance.IntN(14)]}
	if c.turn && chance.IntN(4) == 0 {
		x.Kind = []int{TurnThere, TurnBack}[chance.IntN(2)]
		x.At = make([]int, chance.IntN(4))
		for i := range x.At {
			x.At[i] = chance.IntN(130)
		}
	}
	if c.forge && chance.IntN(8) == 0 {
		x.Kind = []int{ForgeThere, ForgeBack}[chance.IntN(2)]
	}
	if c.odd && chance.IntN(30) == 0 {
		x.Kind = chance.IntN(20) - 3
	}
	x.K = chance.IntN(there + 1)
	if x.Kind%2 == 0 {
		x.K = chance.IntN(back + 1)
	}
	x.Bytes = make([]byte, chance.IntN(5))
	for i := range x.Bytes {
		x.Bytes[i] = byte(chance.Uint32())
	}
	if x.Kind == ForgeThere || x.Kind == ForgeBack {
		x.Bytes = forged(chance, s, x.Bytes)
	}
	return x
}

// forged are any bytes, or a frame near those that a system's ends may send.
func forged(chance *rand.Rand, s *System, b []byte) []byte {
	from, to := s.Ends()
	switch chance.IntN(5) {
	case 0:
		return b
	case 1:
		return data(by(to.Receiver().Base(), chance.IntN(40)-5), chance.IntN(4), string(b))
	case 2:
		return data(by(from.Receiver().Base(), chance.IntN(40)-5), chance.IntN(4), string(b))
	case 3:
		return ack(by(from.Sender().Base(), chance.IntN(5)-1), chance.Uint32()>>chance.IntN(33))
	}
	return ack(seq.Num(chance.Uint32()), chance.Uint32())
}

// configs are windows of the least and the greatest sizes, and numbers that come round soon.
func configs() []Config {
	return []Config{
		{Window: api.Window{Size: 1, Queue: 1, Pool: 1}, First: 65530, Age: 3},
		{Window: api.Window{Size: 2, Queue: 5, Pool: 1}, First: 65530, Age: 40},
		{Window: api.Window{Size: 4, Queue: 8, Pool: 2}, First: 65000, Age: 1},
		{Window: api.Window{Size: 8, Queue: 64, Pool: 16}, First: 32760, Age: 10},
		{Window: api.Window{Size: 32, Queue: 64, Pool: 3}, First: 65500, Age: 5},
		{Window: api.Window{Size: 32, Queue: 32, Pool: 16}, First: 0, Age: 1000},
	}
}

// P27.1

func TestAgainstAModel(t *testing.T) {
	chance := rand.New(rand.NewPCG(27, 1))
	for _, c := range configs() {
		s, m := system(t, c.Window.Size, c.Window.Queue, c.Window.Pool, c.First, c.Age), newModel(c)
		for range 4000 {
			x := someStep(chance, s, chances{turn: true, forge: true, odd: true})
			got, e := s.Do(x)
			want, no := m.do(x)
			if string(got) != want || e != no {
				t.Fatalf("Do(%v) = %q, %d, want %q, %d", x, got, e, want, no)
			}
			same(t, s, m)
			keeps(t, s, c.Window)
		}
		texts(t, s.Accepted(), m.sent...)
		texts(t, s.Delivered(), m.got...)
	}
}

// P27.2

func TestDeliveredIsABeginningOfAccepted(t *testing.T) {
	chance := rand.New(rand.NewPCG(27, 2))
	for _, c := range configs() {
		delivered := 0
		for range 8 {
			s := system(t, c.Window.Size, c.Window.Queue, c.Window.Pool, c.First, c.Age)
			for range 1500 {
				s.Do(someStep(chance, s, chances{}))
				begins(t, s)
				keeps(t, s, c.Window)
			}
			if s.Altered() {
				t.Fatal("it is altered, and nothing was turned")
			}
			delivered += len(s.Delivered())
		}
		if delivered < 50 {
			t.Errorf("of %v %d were delivered alone", c, delivered)
		}
	}
}

// P27.3

// Heads are turned, too; those that pass are few, and a system that one passed on is let go of.
func TestDeliveredIsABeginningWithTurning(t *testing.T) {
	chance := rand.New(rand.NewPCG(27, 3))
	altered := 0
	for _, c := range configs() {
		delivered := 0
		for range 8 {
			s := system(t, c.Window.Size, c.Window.Queue, c.Window.Pool, c.First, c.Age)
			for range 1500 {
				s.Do(someStep(chance, s, chances{turn: true}))
				keeps(t, s, c.Window)
				if s.Altered() {
					altered++
					break
				}
				begins(t, s)
			}
			delivered += len(s.Delivered())
		}
		if delivered < 50 {
			t.Errorf("of %v %d were delivered alone", c, delivered)
		}
	}
	if altered > 4 {
		t.Errorf("%d times a head passed", altered)
	}
}

// P27.2

// Flights come at the last step at which they may, and as many messages as can be went on since: they change nothing.
func TestTheOldestFlights(t *testing.T) {
	s := system(t, 32, 32, 1, 40000, 1000)
	from, to := s.Ends()
	sent := 0
	fill := func() {
		for from.Sender().Kept() < 32 {
			goes(t, s, Step{Kind: Send, Bytes: []byte{byte(sent), byte(sent >> 8)}})
			sent++
		}
	}
	fill()
	goes(t, s, kind(Tick, 0))
	// Of the first and of the last message the frames and the acks are doubled, and stay.
	goes(t, s, kind(TwiceThere, 0), kind(TwiceThere, 31))
	for range 32 {
		goes(t, s, kind(There, 0))
	}
	goes(t, s, kind(TwiceBack, 0), kind(TwiceBack, 31))
	for range 32 {
		goes(t, s, kind(Back, 0))
	}
	for range 999 {
		fill()
		goes(t, s, kind(Tick, 0))
		for range 32 {
			goes(t, s, kind(There, 2))
		}
		goes(t, s, kind(Back, 33))
		for range 31 {
			goes(t, s, kind(LoseBack, 2))
		}
	}
	fill()
	flights(t, s, 2, 2)
	was, told := to.Counts(), to.Receiver().Map()
	goes(t, s, kind(There, 0), kind(There, 0), kind(Back, 0), kind(Back, 0))
	was.Old += 2
	if to.Counts() != was || to.Receiver().Map() != told || to.Receiver().Waiting() != 32000 {
		t.Errorf("%+v, want %+v", to.Counts(), was)
	}
	if from.Sender().Kept() != 32 || from.Counts().Far != 0 {
		t.Errorf("%d are kept, %+v", from.Sender().Kept(), from.Counts())
	}
	for range 32000 {
		s.Do(kind(Poll, 0))
	}
	begins(t, s)
}

// P27.4

// foe lets come of each so many datagrams one as it was put: by chance, or, without chance, whatever is of no use,
// and what is of use as late as it can. The others are turned, or lost.
type foe struct {
	fair, gap int
	chance    *rand.Rand
	turns     bool
}

// comes: is the next datagram one that comes?
func (f *foe) comes(useful bool) bool {
	f.gap++
	yes := f.gap >= f.fair
	switch {
	case f.chance != nil:
		yes = yes || f.chance.IntN(f.fair) == 0
	case !useful:
		yes = true
	}
	if yes {
		f.gap = 0
	}
	return yes
}

// isUseful: is a datagram of a message that hasn't come?
func isUseful(s *System, b []byte) bool {
	f, e := frame.Read(b)
	_, to := s.Ends()
	return e == api.OK && !ackmap.Has(to.Receiver().Map(), f.Seq)
}

// pass has all flights of one channel come, be lost or be turned.
func (f *foe) pass(t *testing.T, s *System, there bool, useful func([]byte) bool) {
	t.Helper()
	come, lose, turn, on := There, LoseThere, TurnThere, s.there
	if !there {
		come, lose, turn, on = Back, LoseBack, TurnBack, s.back
	}
	for on.Len() > 0 {
		first := peek(on)
		switch {
		case f.comes(useful(first)):
			goes(t, s, kind(come, 0))
		case f.turns:
			at := make([]int, 0, 12)
			for i := 48; i < 8*len(first)-8; i += 5 {
				at = append(at, i)
			}
			goes(t, s, Step{Kind: turn, At: at}, kind(come, 0))
		default:
			goes(t, s, kind(lose, 0))
		}
	}
}

// peek is the bytes of the first flight: a like one is taken.
func peek(c *channel.Channel) []byte {
	c.Twice(0)
	f, _ := c.Take(c.Len() - 1)
	return f.Bytes
}

// lasts is behind how many Ticks all of so many messages are delivered, and none is kept.
func lasts(t *testing.T, c Config, there, back *foe, n int) int {
	t.Helper()
	s := system(t, c.Window.Size, c.Window.Queue, c.Window.Pool, c.First, c.Age)
	from, _ := s.Ends()
	for sent := 0; ; {
		there.pass(t, s, true, func(b []byte) bool { return isUseful(s, b) })
		back.pass(t, s, false, func(b []byte) bool { return true })
		for {
			if _, e := s.Do(kind(Poll, 0)); e != api.OK {
				break
			}
		}
		begins(t, s)
		if sent == n && from.Idle() {
			if len(s.Delivered()) != n {
				t.Fatalf("%d of %d are delivered, and none is kept", len(s.Delivered()), n)
			}
			return from.Sender().Now()
		}
		if limit := (there.fair + 2) * (there.fair + 2) * 32 * (n + 1); from.Sender().Now() > limit {
			t.Fatalf("%v: behind %d ticks, where of each %d one comes, %d of %d are delivered", c, limit, there.fair, len(s.Delivered()), n)
		}
		for sent < n {
			if _, e := s.Do(Step{Kind: Send, Bytes: []byte{byte(sent), byte(sent >> 8)}}); e != api.OK {
				break
			}
			sent++
		}
		goes(t, s, kind(Tick, 0))
	}
}

func TestAllIsDelivered(t *testing.T) {
	for _, c := range configs() {
		for _, fair := range []int{1, 2, 3, 5, 8} {
			for _, n := range []int{0, 1, 2, 40} {
				chance := rand.New(rand.NewPCG(27, uint64(fair)))
				lasts(t, c, &foe{fair: fair, chance: chance}, &foe{fair: fair, chance: chance}, n)
				lasts(t, c, &foe{fair: fair}, &foe{fair: fair}, n)
				// What is turned may hold all buffers. A foe with chance lets the first message come at last; one
				// without chance might not, so that there must be a buffer for each message under way.
				lasts(t, c, &foe{fair: fair, turns: true, chance: chance}, &foe{fair: fair, turns: true, chance: chance}, n)
				if c.Window.Pool >= min(c.Window.Size, 16) {
					lasts(t, c, &foe{fair: fair, turns: true}, &foe{fair: fair, turns: true}, min(n, 16))
				}
			}
		}
	}
}

// If all comes, one tick is enough for each window of messages.
func TestWithoutLossATickIsEnough(t *testing.T) {
	for _, c := range configs() {
		n := 100
		size := c.Window.Size
		if got, want := lasts(t, c, &foe{fair: 1}, &foe{fair: 1}, n), (n+size-1)/size; got != want {
			t.Errorf("%v: behind %d ticks, want %d", c, got, want)
		}
	}
}

// P5, P27.1

func TestWithForgingNoMoreIsKept(t *testing.T) {
	chance := rand.New(rand.NewPCG(27, 5))
	for _, c := range configs() {
		s := system(t, c.Window.Size, c.Window.Queue, c.Window.Pool, c.First, c.Age)
		for range 6000 {
			s.Do(someStep(chance, s, chances{turn: true, forge: true, odd: true}))
			keeps(t, s, c.Window)
		}
	}
}

// Rule 5 of the document: the same steps, the same answers.
func TestAnswersAreAlwaysTheSame(t *testing.T) {
	run := func() []byte {
		chance := rand.New(rand.NewPCG(27, 6))
		s := system(t, 8, 20, 2, 65530, 6)
		var all []byte
		for range 3000 {
			b, e := s.Do(someStep(chance, s, chances{turn: true, forge: true}))
			all = append(append(all, byte(e)), b...)
		}
		return all
	}
	want := run()
	for range 2 {
		if !bytes.Equal(run(), want) {
			t.Fatal("another answer of the same steps")
		}
	}
}
