package fifo

import (
	"math/rand/v2"
	"testing"

	"shuttle/api"
	"shuttle/run"
	"shuttle/seq"
)

// model is all messages that were sent ever, and how many of them, from the first on, are what.
type model struct {
	most                     int
	sent                     []string
	delivered, polled, acked int
}

func (m *model) send(text string) api.Errno {
	if len(text) > 64 {
		return api.ErrLong
	}
	if len(m.sent) == m.acked+m.most {
		return api.ErrFull
	}
	m.sent = append(m.sent, text)
	return api.OK
}

func (m *model) deliver() api.Errno {
	if m.delivered == len(m.sent) {
		return api.ErrMiss
	}
	m.delivered++
	return api.OK
}

func (m *model) poll() (string, bool) {
	if m.polled == m.delivered {
		return "", false
	}
	m.polled++
	return m.sent[m.polled-1], true
}

func (m *model) ack(n int) api.Errno {
	if n < 0 {
		return api.ErrArg
	}
	if m.acked+n > m.delivered {
		return api.ErrMiss
	}
	m.acked += n
	return api.OK
}

// P28.1

func TestAgainstAModel(t *testing.T) {
	chance := rand.New(rand.NewPCG(28, 1))
	for most := 1; most <= 64; most++ {
		q, m := queue(t, most), &model{most: most}
		for step := range 2000 {
			// What is done most often turns, so that it runs full and empty.
			kind := chance.IntN(4)
			if chance.IntN(3) == 0 {
				kind = step / 150 % 4
			}
			switch kind {
			case 0:
				b := make([]byte, chance.IntN(68))
				for i := range b {
					b[i] = byte(chance.Uint32())
				}
				does(t, q.Send(b), m.send(string(b)))
			case 1:
				does(t, q.Deliver(), m.deliver())
			case 2:
				got, ok := q.Poll()
				if want, there := m.poll(); string(got) != want || ok != there {
					t.Fatalf("Poll() = %q, %v, want %q, %v", got, ok, want, there)
				}
			case 3:
				n := chance.IntN(5) - 1
				does(t, q.Ack(n), m.ack(n))
			}
			is(t, q, len(m.sent)-m.acked, len(m.sent)-m.delivered, m.delivered-m.polled)
		}
		if m.acked < 50 || m.polled < 50 {
			t.Errorf("of %d, %d were acked and %d polled alone", most, m.acked, m.polled)
		}
	}
}

// P28.2, P6 of the document

// twin is a system, and a queue that is told how far the system's bases came.
type twin struct {
	s        *run.System
	q        *Queue
	from, to seq.Num
}

func newTwin(t *testing.T, c run.Config) *twin {
	t.Helper()
	s, e := run.New(c)
	if e != api.OK {
		t.Fatalf("New(%v): %d", c, e)
	}
	return &twin{s: s, q: queue(t, c.Window.Queue), from: c.First, to: c.First}
}

// do has both do a step, and fails unless they answer it alike.
func (w *twin) do(t *testing.T, x run.Step) {
	t.Helper()
	got, e := w.s.Do(x)
	switch x.Kind {
	case run.Send:
		if want := w.q.Send(x.Bytes); e != want {
			t.Fatalf("Send of %d bytes: %d, and of a queue %d", len(x.Bytes), e, want)
		}
	case run.Poll:
		if want, ok := w.q.Poll(); string(got) != string(want) || (e == api.OK) != ok {
			t.Fatalf("Poll: %q, %d, and of a queue %q, %v", got, e, want, ok)
		}
	}
	from, to := w.s.Ends()
	// Bases come round, so what they went on is told step by step.
	for ; w.to != to.Receiver().Base(); w.to = seq.Plus(w.to, 1) {
		does(t, w.q.Deliver(), api.OK)
	}
	base := from.Sender().Base()
	does(t, w.q.Ack(seq.Ahead(w.from, base)), api.OK)
	w.from = base
	is(t, w.q, from.Sender().Kept(), w.q.Under(), to.Receiver().Waiting())
}

// someStep is one that turns nothing and forges nothing.
func someStep(chance *rand.Rand, s *run.System, kinds []int) run.Step {
	there, back := s.Flights()
	x := run.Step{Kind: kinds[chance.IntN(len(kinds))]}
	x.K = chance.IntN(there + 1)
	if x.Kind == run.Back || x.Kind == run.LoseBack || x.Kind == run.TwiceBack {
		x.K = chance.IntN(back + 1)
	}
	if x.Kind == run.Send {
		x.Bytes = make([]byte, []int{0, 1, 2, 5, 64, 65}[chance.IntN(6)])
		for i := range x.Bytes {
			x.Bytes[i] = byte(chance.Uint32())
		}
	}
	return x
}

func TestASystemAnswersAsAQueueDoes(t *testing.T) {
	most := []int{run.Send, run.Send, run.Tick, run.There, run.There, run.There, run.Back, run.Back, run.Back, run.Poll}
	lossy := append([]int{run.LoseThere, run.LoseThere, run.LoseBack, run.TwiceThere, run.TwiceBack}, most...)
	chance := rand.New(rand.NewPCG(28, 2))
	polled, level := 0, 0
	for _, c := range []run.Config{
		{Window: api.Window{Size: 1, Queue: 1, Pool: 1}, First: 65530, Age: 3},
		{Window: api.Window{Size: 2, Queue: 5, Pool: 1}, First: 0, Age: 40},
		{Window: api.Window{Size: 4, Queue: 8, Pool: 2}, First: 65535, Age: 1},
		{Window: api.Window{Size: 8, Queue: 64, Pool: 16}, First: 32760, Age: 10},
		{Window: api.Window{Size: 32, Queue: 64, Pool: 3}, First: 65500, Age: 5},
		{Window: api.Window{Size: 32, Queue: 32, Pool: 16}, First: 40000, Age: 1000},
	} {
		for _, kinds := range [][]int{most, lossy, most, lossy} {
			w := newTwin(t, c)
			for range 2500 {
				w.do(t, someStep(chance, w.s, kinds))
				from, _ := w.s.Ends()
				level = max(level, from.Sender().Policy().Level)
			}
			polled += len(w.s.Delivered())
		}
	}
	// Whatever the rate: there must have been several.
	if polled < 1000 || level < 2 {
		t.Errorf("%d were polled alone, and the highest level was %d", polled, level)
	}
}

// Numbers come round, and the queue goes on.
func TestASystemWhoseNumbersComeRound(t *testing.T) {
	w := newTwin(t, run.Config{Window: api.Window{Size: 32, Queue: 64, Pool: 1}, First: 65000, Age: 2})
	polled := 0
	for polled < 2000 {
		for i := range 40 {
			w.do(t, run.Step{Kind: run.Send, Bytes: []byte{byte(i)}})
		}
		w.do(t, run.Step{Kind: run.Tick})
		for there, _ := w.s.Flights(); there > 0; there, _ = w.s.Flights() {
			w.do(t, run.Step{Kind: run.There})
		}
		for _, back := w.s.Flights(); back > 0; _, back = w.s.Flights() {
			w.do(t, run.Step{Kind: run.Back})
		}
		for range 33 {
			w.do(t, run.Step{Kind: run.Poll})
		}
		polled = len(w.s.Delivered())
	}
}
