package duplex

import (
	"fmt"
	"math/rand/v2"
	"slices"
	"strings"
	"testing"

	"shuttle/api"
	"shuttle/link"
	"shuttle/seq"
)

// flight is a datagram on its way, since which tick, and to which end.
type flight struct {
	text  string
	since int
	to    int
}

// model is two ends, one list of all that is under way, either way, in the order in which it was put, and what was
// sent from, and polled at, each end.
type model struct {
	one, two  *link.End
	age, now  int
	way       []flight
	sent, got map[int][]string
}

func newModel(c Config) *model {
	m := &model{age: c.Age, sent: map[int][]string{}, got: map[int][]string{}}
	m.one, _ = link.New(link.Config{Window: c.Window, Out: c.First[0], In: c.First[1]})
	m.two, _ = link.New(link.Config{Window: c.Window, Out: c.First[1], In: c.First[0]})
	return m
}

func (m *model) end(end int) *link.End {
	if end == 0 {
		return m.one
	}
	return m.two
}

// at are the places of all that is under way to an end.
func (m *model) at(end int) []int {
	var l []int
	for i, f := range m.way {
		if f.to == end {
			l = append(l, i)
		}
	}
	return l
}

func (m *model) put(to int, l [][]byte) {
	for _, b := range l {
		if len(m.at(to)) < 4096 {
			m.way = append(m.way, flight{string(b), m.now, to})
		}
	}
}

func (m *model) tick() {
	m.now++
	var young []flight
	for _, f := range m.way {
		if m.now < f.since+m.age {
			young = append(young, f)
		}
	}
	m.way = young
	m.put(1, m.one.Tick())
	m.put(0, m.two.Tick())
}

// act is what Come, Lose and Twice are, by their names.
func (m *model) act(name string, end, k int) api.Errno {
	at := m.at(end)
	if k < 0 || k >= len(at) {
		return api.ErrMiss
	}
	f := m.way[at[k]]
	if name == "twice" {
		if len(at) == 4096 {
			return api.ErrFull
		}
		m.way = append(m.way, f)
		return api.OK
	}
	m.way = slices.Concat(m.way[:at[k]], m.way[at[k]+1:])
	if name == "come" {
		m.put(1-end, m.end(end).OnDatagram([]byte(f.text)))
	}
	return api.OK
}

func (m *model) send(end int, text string) api.Errno {
	e := m.end(end).Send([]byte(text))
	if e == api.OK {
		m.sent[end] = append(m.sent[end], text)
	}
	return e
}

// same fails unless a pair and a model tell the same, and no end keeps more than it may.
func same(t *testing.T, p *Pair, m *model, w api.Window) {
	t.Helper()
	for end := range 2 {
		e, x := p.End(end), m.end(end)
		if e.Counts() != x.Counts() || e.Sender().Base() != x.Sender().Base() || e.Receiver().Map() != x.Receiver().Map() || e.Sender().Now() != x.Sender().Now() {
			t.Fatalf("end %d: %+v, want %+v", end, e.Counts(), x.Counts())
		}
		if a, b, c := e.Sender().Kept(), len(e.Sender().Under()), e.Receiver().Buffers(); a > w.Queue || b > w.Size || c > w.Pool {
			t.Fatalf("%d kept, %d under way, %d buffers of %v", a, b, c, w)
		}
	}
	flights(t, p, len(m.at(0)), len(m.at(1)))
	if p.Idle() != (m.one.Sender().Kept()+m.two.Sender().Kept() == 0) {
		t.Fatalf("idle %v", p.Idle())
	}
}

// begins fails unless what was polled at each end is a beginning of what the other one sent.
func begins(t *testing.T, m *model) {
	t.Helper()
	for end := range 2 {
		sent, got := m.sent[1-end], m.got[end]
		if len(got) > len(sent) || !slices.Equal(got, sent[:len(got)]) {
			t.Fatalf("to end %d %q were sent, %q polled", end, sent, got)
		}
	}
}

// configs are windows of all kinds.
func configs() []Config {
	var l []Config
	for i, w := range [][3]int{{1, 1, 1}, {2, 2, 1}, {4, 8, 2}, {32, 64, 16}, {32, 32, 1}, {16, 20, 5}} {
		l = append(l, Config{
			Window: api.Window{Size: w[0], Queue: w[1], Pool: w[2]},
			First:  [2]seq.Num{seq.Num(65530 + 10*i), seq.Num(32760 * i)},
			Age:    []int{2, 3, 1000, 10, 7, 40}[i],
		})
	}
	return l
}

// step is one, by chance, of a pair and of its model; it fails unless both answer the same.
func step(t *testing.T, chance *rand.Rand, p *Pair, m *model, text string) {
	t.Helper()
	end := chance.IntN(2)
	k := chance.IntN(max(1, p.Flights(end))+1) - chance.IntN(20)/19
	var got, want api.Errno
	switch n := chance.IntN(20); n {
	case 0, 1, 2:
		got, want = p.Send(end, []byte(text)), m.send(end, text)
	case 3, 4, 5:
		p.Tick()
		m.tick()
	case 6, 7:
		got, want = p.Lose(end, k), m.act("lose", end, k)
	case 8, 9:
		got, want = p.Twice(end, k), m.act("twice", end, k)
	case 10, 11, 12:
		a, ok := p.Poll(end)
		b, there := m.end(end).Poll()
		if ok != there || string(a) != string(b) {
			t.Fatalf("Poll(%d) = %q, %v, want %q, %v", end, a, ok, b, there)
		}
		if ok {
			m.got[end] = append(m.got[end], string(a))
		}
	default:
		got, want = p.Come(end, k), m.act("come", end, k)
	}
	if got != want {
		t.Fatalf("%d, want %d", got, want)
	}
}

// P35.1, P35.2

func TestAgainstAModel(t *testing.T) {
	chance := rand.New(rand.NewPCG(35, 1))
	for _, c := range configs() {
		polled := [2]int{}
		for range 3 {
			p, e := New(c)
			is(t, e, api.OK)
			m := newModel(c)
			for i := range 1000 {
				step(t, chance, p, m, fmt.Sprintf("m%d%s", i, strings.Repeat("x", chance.IntN(63))))
				same(t, p, m, c.Window)
				begins(t, m)
			}
			for end := range 2 {
				polled[end] += len(m.got[end])
			}
		}
		if polled[0] < 8 || polled[1] < 8 {
			t.Errorf("of %v %d were polled alone", c, polled)
		}
	}
}

// One end's numbers come round while the other one's don't, and many flights are old or doubled.
func TestNumbersComeRound(t *testing.T) {
	chance := rand.New(rand.NewPCG(35, 2))
	c := Config{Window: api.Window{Size: 32, Queue: 64, Pool: 4}, First: [2]seq.Num{65000, 100}, Age: 30}
	p, e := New(c)
	is(t, e, api.OK)
	sent, got := [2]int{}, [2]int{}
	for p.End(0).Receiver().Base() < 3000 {
		for end := range 2 {
			for p.Send(end, fmt.Appendf(nil, "%d %d", end, sent[end])) == api.OK {
				sent[end]++
			}
		}
		p.Tick()
		for end := range 2 {
			for range p.Flights(end) {
				k := chance.IntN(p.Flights(end))
				switch chance.IntN(8) {
				case 0:
					p.Lose(end, k)
				case 1:
					p.Twice(end, k)
				case 2:
				default:
					p.Come(end, k)
				}
			}
			for {
				b, ok := p.Poll(end)
				if !ok {
					break
				}
				if string(b) != fmt.Sprintf("%d %d", 1-end, got[end]) {
					t.Fatalf("end %d polled %q as message %d", end, b, got[end])
				}
				got[end]++
			}
		}
	}
	if base := p.End(1).Receiver().Base(); base >= 65000 || base < 500 {
		t.Errorf("the numbers of end 0 are at %d", base)
	}
}

// P35.3

// pass has all come that is under way, either way, in the order in which it was put or by chance, till nothing is; some
// are doubled.
func pass(p *Pair, chance *rand.Rand) {
	for p.Flights(0)+p.Flights(1) > 0 {
		end, k := 0, 0
		if chance != nil {
			end = chance.IntN(2)
			k = chance.IntN(max(1, p.Flights(end)))
			if chance.IntN(5) == 0 {
				p.Twice(end, k)
			}
		}
		if p.Come(end, k) != api.OK {
			p.Come(1-end, 0)
		}
	}
}

// lasts is behind how many Ticks all is over, of so many messages from each end, of which the queues are kept full.
func lasts(t *testing.T, c Config, n [2]int, chance *rand.Rand) int {
	t.Helper()
	p, e := New(c)
	is(t, e, api.OK)
	sent, got := [2]int{}, [2]int{}
	for ticks := 0; ; ticks++ {
		for end := range 2 {
			for got[end] < n[1-end] {
				b, ok := p.Poll(end)
				if !ok {
					break
				}
				if string(b) != fmt.Sprint(got[end]) {
					t.Fatalf("%q is polled as message %d", b, got[end])
				}
				got[end]++
			}
			for sent[end] < n[end] && p.Send(end, fmt.Append(nil, sent[end])) == api.OK {
				sent[end]++
			}
		}
		if p.Idle() {
			if got != [2]int{n[1], n[0]} || sent != n {
				t.Fatalf("it is idle, and of %d messages %d were polled", n, got)
			}
			return ticks
		}
		if ticks > n[0]+n[1]+1 {
			t.Fatalf("%v: of %d messages %d are polled behind %d ticks", c, n, got, ticks)
		}
		p.Tick()
		pass(p, chance)
	}
}

// Behind a tick of all that go the most are over, as many as a window has.
func TestWithoutLossAllIsOver(t *testing.T) {
	chance := rand.New(rand.NewPCG(35, 3))
	for _, c := range configs() {
		for _, n := range [][2]int{{0, 0}, {1, 0}, {0, 1}, {1, 1}, {2, 1}, {3, 3}, {0, 64}, {40, 0}, {33, 64}, {100, 150}, {200, 1}} {
			size := c.Window.Size
			want := (max(n[0], n[1]) + size - 1) / size
			for _, x := range []*rand.Rand{nil, chance} {
				if got := lasts(t, c, n, x); got != want || got > max(n[0], n[1])+1 {
					t.Errorf("%v: of %d messages all were over behind %d ticks, want %d", c, n, got, want)
				}
			}
		}
	}
}

// Rule 5 of the document: the same steps, the same answers.
func TestAnswersAreAlwaysTheSame(t *testing.T) {
	answers := func() string {
		chance := rand.New(rand.NewPCG(35, 4))
		c := configs()[2]
		p, _ := New(c)
		all := ""
		for i := range 1000 {
			end, k := chance.IntN(2), chance.IntN(3)
			switch chance.IntN(6) {
			case 0:
				all += fmt.Sprint(p.Send(end, fmt.Append(nil, i)))
			case 1:
				p.Tick()
			case 2:
				all += fmt.Sprint(p.Poll(end))
			case 3:
				all += fmt.Sprint(p.Lose(end, k), p.Twice(end, k))
			default:
				all += fmt.Sprint(p.Come(end, k))
			}
			all += fmt.Sprint(p.Flights(end), p.Idle())
		}
		return all
	}
	if a := answers(); a != answers() {
		t.Error("another answer of the same steps")
	}
}

// P5: what is sent on an end by whoever holds it is the end's: of whatever bytes come there nothing panics.
func TestAnyBytesAtAnEnd(t *testing.T) {
	chance := rand.New(rand.NewPCG(35, 5))
	for _, c := range configs() {
		p, _ := New(c)
		for range 600 {
			b := make([]byte, chance.IntN(60))
			for i := range b {
				b[i] = byte(chance.Uint32())
			}
			end := chance.IntN(2)
			p.End(end).OnDatagram(b)
			p.Send(end, b)
			p.Tick()
			p.Come(1-end, 0)
			for _, e := range []*link.End{p.End(0), p.End(1)} {
				if a, u, n := e.Sender().Kept(), len(e.Sender().Under()), e.Receiver().Buffers(); a > c.Window.Queue || u > c.Window.Size || n > c.Window.Pool {
					t.Fatalf("%d kept, %d under way, %d buffers of %v", a, u, n, c.Window)
				}
			}
		}
	}
}
