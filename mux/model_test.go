package mux

import (
	"fmt"
	"maps"
	"math/rand/v2"
	"slices"
	"testing"

	"shuttle/api"
	"shuttle/link"
	"shuttle/seq"
)

// model is links by number, each by itself, and what came of no link.
type model struct {
	alone map[int]*link.End
	lost  int
}

func (m *model) open(n int, c link.Config) api.Errno {
	e, no := link.New(c)
	switch {
	case n != n&255 || no != api.OK:
		return api.ErrArg
	case m.alone[n] != nil:
		return api.ErrOld
	case len(m.alone) > 15:
		return api.ErrFull
	}
	m.alone[n] = e
	return api.OK
}

func (m *model) close(n int) api.Errno {
	if m.alone[n] == nil {
		return api.ErrMiss
	}
	delete(m.alone, n)
	return api.OK
}

// out is what a link tells, as texts behind the number of the link.
func out(n int, l [][]byte) []string {
	var all []string
	for _, b := range l {
		all = append(all, string(rune(n))+" "+string(b))
	}
	return all
}

func (m *model) tick() []string {
	var all []string
	for n := range 256 {
		all = append(all, out(n, m.alone[n].Tick())...)
	}
	return all
}

func (m *model) onDatagram(b []byte) []string {
	if len(b) < 1 || m.alone[int(b[0])] == nil {
		m.lost++
		return nil
	}
	return out(int(b[0]), m.alone[int(b[0])].OnDatagram(b[1:]))
}

// told are datagrams in the model's texts.
func told(l [][]byte) []string {
	var all []string
	for _, b := range l {
		all = append(all, string(rune(b[0]))+" "+string(b[1:]))
	}
	return all
}

// same fails unless a mux and a model tell the same.
func same(t *testing.T, m *Mux, x *model) {
	t.Helper()
	if want := slices.Sorted(maps.Keys(x.alone)); !slices.Equal(m.Numbers(), want) {
		t.Fatalf("%v, want %v", m.Numbers(), want)
	}
	if m.Lost() != x.lost {
		t.Fatalf("%d are lost, want %d", m.Lost(), x.lost)
	}
	for n, e := range x.alone {
		got := m.Link(n)
		if got.Counts() != e.Counts() || got.Idle() != e.Idle() || got.Receiver().Map() != e.Receiver().Map() || got.Sender().Now() != e.Sender().Now() || !slices.Equal(got.Sender().Under(), e.Sender().Under()) {
			t.Fatalf("link %d: %+v, alone %+v", n, got.Counts(), e.Counts())
		}
	}
}

// someConfig is one by chance, that often has the numbers 0.
func someConfig(chance *rand.Rand) link.Config {
	size := 1 + chance.IntN(6)
	c := config(size, size+chance.IntN(4), 1+chance.IntN(3), 0, 0)
	if chance.IntN(8) == 0 {
		c.Window.Pool = 17 * chance.IntN(2)
	}
	return c
}

// someDatagram is one of those that went out, or, by chance, for another link, with a byte changed, or whatever.
func someDatagram(chance *rand.Rand, way [][]byte, numbers []int) []byte {
	if len(way) == 0 || chance.IntN(20) == 0 {
		b := make([]byte, chance.IntN(30))
		for i := range b {
			b[i] = byte(chance.Uint32())
		}
		return b
	}
	b := slices.Clone(way[chance.IntN(len(way))])
	switch chance.IntN(6) {
	case 0:
		b[0] = byte(chance.IntN(30))
	case 1:
		b[chance.IntN(len(b))] ^= byte(1 << chance.IntN(8))
	case 2, 3:
		if len(numbers) > 0 {
			b[0] = byte(numbers[chance.IntN(len(numbers))])
		}
	}
	return b
}

// P36.1, P36.2

// Of one mux, to which all of what it tells comes back, often to another link: each link does what it does alone.
func TestAgainstLinksAlone(t *testing.T) {
	chance := rand.New(rand.NewPCG(36, 1))
	read, full, lost := 0, 0, 0
	for range 8 {
		m, x := New(), &model{alone: map[int]*link.End{}}
		var way [][]byte
		for i := range 2500 {
			n := chance.IntN(30) * (1 + 8*chance.IntN(2))
			switch chance.IntN(20) {
			case 0, 1:
				c := someConfig(chance)
				got, want := m.Open(n-1, c), x.open(n-1, c)
				is(t, got, want)
				if got == api.ErrFull {
					full++
				}
			case 2:
				if chance.IntN(6) == 0 {
					is(t, m.Close(n-1), x.close(n-1))
				}
			case 3, 4, 5, 6:
				b := fmt.Appendf(nil, "m%d", i)
				if l := m.Numbers(); len(l) > 0 {
					n = l[chance.IntN(len(l))]
				}
				is(t, m.Link(n).Send(b), x.alone[n].Send(b))
			case 7, 8, 9:
				l := m.Tick()
				if want := x.tick(); !slices.Equal(told(l), want) {
					t.Fatalf("%q, want %q", told(l), want)
				}
				way = append(way, l...)
			case 10, 11:
				a, ok := m.Link(n).Poll()
				b, there := x.alone[n].Poll()
				if ok != there || string(a) != string(b) {
					t.Fatalf("link %d polled %q, %v, alone %q, %v", n, a, ok, b, there)
				}
			default:
				b := someDatagram(chance, way, m.Numbers())
				l := m.OnDatagram(b)
				if want := x.onDatagram(b); !slices.Equal(told(l), want) {
					t.Fatalf("%q, want %q", told(l), want)
				}
				way = append(way, l...)
			}
			way = way[max(0, len(way)-40):]
			same(t, m, x)
		}
		for _, e := range x.alone {
			read += e.Counts().Read
		}
		lost += m.Lost()
	}
	if read < 100 || full < 100 || lost < 100 {
		t.Errorf("%d were read, %d times there were 16 links, %d were lost", read, full, lost)
	}
}

// Two muxes send to each other over one channel that loses and doubles, and puts out of order: on each link what is
// polled is what was sent on it.
func TestTwoMuxes(t *testing.T) {
	chance := rand.New(rand.NewPCG(36, 2))
	mux := [2]*Mux{New(), New()}
	open := []int{0, 1, 7, 128, 254, 255}
	for _, n := range open {
		c := config(4, 8, 2, seq.Num(65530+n), seq.Num(n))
		is(t, mux[0].Open(n, c), api.OK)
		c.Out, c.In = c.In, c.Out
		is(t, mux[1].Open(n, c), api.OK)
	}
	sent, got := [2]map[int]int{{}, {}}, [2]map[int]int{{}, {}}
	for round := range 400 {
		var way [2][][]byte
		for end, m := range mux {
			for _, n := range open {
				for round < 300 && chance.IntN(3) > 0 && m.Link(n).Send(fmt.Appendf(nil, "%d of %d", sent[end][n], n)) == api.OK {
					sent[end][n]++
				}
			}
			way[1-end] = append(way[1-end], m.Tick()...)
		}
		for len(way[0])+len(way[1]) > 0 {
			end := chance.IntN(2)
			if len(way[end]) == 0 {
				continue
			}
			k := chance.IntN(len(way[end]))
			b := way[end][k]
			if chance.IntN(6) > 0 {
				way[end] = slices.Delete(way[end], k, k+1)
			}
			if chance.IntN(5) > 0 || round > 300 {
				way[1-end] = append(way[1-end], mux[end].OnDatagram(b)...)
			}
		}
		for end, m := range mux {
			for _, n := range open {
				for b, ok := m.Link(n).Poll(); ok; b, ok = m.Link(n).Poll() {
					if want := fmt.Sprintf("%d of %d", got[end][n], n); string(b) != want {
						t.Fatalf("link %d polled %q, want %q", n, b, want)
					}
					got[end][n]++
				}
			}
		}
	}
	for end := range 2 {
		for _, n := range open {
			if sent[end][n] != got[1-end][n] || sent[end][n] < 200 || !mux[end].Link(n).Idle() {
				t.Errorf("on link %d of %d messages %d were polled", n, sent[end][n], got[1-end][n])
			}
		}
		if mux[end].Lost() != 0 {
			t.Errorf("%d are lost", mux[end].Lost())
		}
	}
}

// P5

func TestAnyBytes(t *testing.T) {
	chance := rand.New(rand.NewPCG(36, 3))
	m := New()
	for n := range 16 {
		is(t, m.Open(n, config(4, 8, 2, 0, 0)), api.OK)
	}
	for i := range 20000 {
		b := make([]byte, chance.IntN(40))
		for j := range b {
			b[j] = byte(chance.Uint32())
		}
		if len(b) > 0 && i%2 == 0 {
			b[0] &= 15
		}
		if l := m.OnDatagram(b); len(l) > 1 {
			t.Fatalf("of %v %v go out", b, l)
		}
	}
	all := m.Lost()
	for n := range 16 {
		c := m.Link(n).Counts()
		all += c.Bad + c.Old + c.Far + c.Noise + c.Read + c.Acks
		if e := m.Link(n); e.Receiver().Buffers() > 2 || !e.Idle() {
			t.Errorf("link %d has %d buffers", n, e.Receiver().Buffers())
		}
	}
	if all < 20000 {
		t.Errorf("%d of 20000 were counted", all)
	}
}
