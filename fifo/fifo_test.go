package fifo

import (
	"bytes"
	"math"
	"slices"
	"testing"

	"shuttle/api"
)

// queue is a new one.
func queue(t *testing.T, most int) *Queue {
	t.Helper()
	q, e := New(most)
	if q == nil || e != api.OK {
		t.Fatalf("New(%d) = %v, %d", most, q, e)
	}
	return q
}

// is fails unless so many are kept, aren't delivered, and are to be polled.
func is(t *testing.T, q *Queue, kept, under, waiting int) {
	t.Helper()
	if a, b, c := q.Kept(), q.Under(), q.Waiting(); a != kept || b != under || c != waiting {
		t.Fatalf("%d kept, %d under way, %d waiting, want %d, %d, %d", a, b, c, kept, under, waiting)
	}
}

// does fails unless an error is that.
func does(t *testing.T, got, want api.Errno) {
	t.Helper()
	if got != want {
		t.Fatalf("%d, want %d", got, want)
	}
}

// sends sends these texts, which mustn't be refused.
func sends(t *testing.T, q *Queue, texts ...string) {
	t.Helper()
	for _, x := range texts {
		does(t, q.Send([]byte(x)), api.OK)
	}
}

// delivers delivers so many, which there must be.
func delivers(t *testing.T, q *Queue, n int) {
	t.Helper()
	for range n {
		does(t, q.Deliver(), api.OK)
	}
}

// polls fails unless just these texts are polled, and none behind them.
func polls(t *testing.T, q *Queue, texts ...string) {
	t.Helper()
	for _, x := range texts {
		if m, ok := q.Poll(); string(m) != x || !ok {
			t.Fatalf("Poll() = %q, %v, want %q", m, ok, x)
		}
	}
	if m, ok := q.Poll(); len(m) != 0 || ok {
		t.Fatalf("Poll() = %q, %v, and there is none", m, ok)
	}
}

// far are numbers far beyond all bounds.
func far() []int { return []int{1 << 32, 1<<32 + 1, -1 << 32, math.MaxInt, math.MinInt} }

// P28.1

func TestNew(t *testing.T) {
	for most := -3; most <= 70; most++ {
		if most >= 1 && most <= 64 {
			is(t, queue(t, most), 0, 0, 0)
			continue
		}
		if q, e := New(most); q != nil || e != api.ErrArg {
			t.Errorf("New(%d) = %v, %d, want nothing and ErrArg", most, q, e)
		}
	}
	for _, most := range far() {
		if q, e := New(most); q != nil || e != api.ErrArg {
			t.Errorf("New(%d) = %v, %d, want nothing and ErrArg", most, q, e)
		}
	}
}

func TestExample(t *testing.T) {
	q := queue(t, 3)
	sends(t, q, "a")
	polls(t, q)
	is(t, q, 1, 1, 0)
	delivers(t, q, 1)
	is(t, q, 1, 0, 1)
	polls(t, q, "a")
	is(t, q, 1, 0, 0)
	does(t, q.Ack(1), api.OK)
	is(t, q, 0, 0, 0)
}

func TestPolledAndAckedInAnyOrder(t *testing.T) {
	q := queue(t, 4)
	sends(t, q, "a", "b", "c", "d")
	delivers(t, q, 3)
	does(t, q.Ack(2), api.OK)
	is(t, q, 2, 1, 3)
	sends(t, q, "e", "f")
	does(t, q.Send(nil), api.ErrFull)
	is(t, q, 4, 3, 3)
	polls(t, q, "a", "b", "c")
	is(t, q, 4, 3, 0)
	does(t, q.Ack(1), api.OK)
	is(t, q, 3, 3, 0)
	delivers(t, q, 3)
	does(t, q.Deliver(), api.ErrMiss)
	polls(t, q, "d", "e", "f")
	is(t, q, 3, 0, 0)
	does(t, q.Ack(3), api.OK)
	is(t, q, 0, 0, 0)
}

func TestSendIsBounded(t *testing.T) {
	for most := 1; most <= 64; most++ {
		q := queue(t, most)
		for i := range most {
			is(t, q, i, i, 0)
			does(t, q.Send(make([]byte, 65)), api.ErrLong)
			sends(t, q, string(make([]byte, i)))
		}
		does(t, q.Send(nil), api.ErrFull)
		// A message that is too long is told ahead of a queue that is full.
		does(t, q.Send(make([]byte, 65)), api.ErrLong)
		does(t, q.Send(make([]byte, 1<<20)), api.ErrLong)
		is(t, q, most, most, 0)
		// Whoever is delivered and polled is kept still, till it is acked.
		delivers(t, q, most)
		for range most {
			q.Poll()
		}
		does(t, q.Send(nil), api.ErrFull)
		is(t, q, most, 0, 0)
		does(t, q.Ack(1), api.OK)
		sends(t, q, "x")
		does(t, q.Send(nil), api.ErrFull)
		is(t, q, most, 1, 0)
	}
}

func TestMessagesOfAllLengths(t *testing.T) {
	q := queue(t, 1)
	for n := range 65 {
		text := string(bytes.Repeat([]byte{byte(n), 0}, 32)[:n])
		sends(t, q, text)
		delivers(t, q, 1)
		does(t, q.Ack(1), api.OK)
		polls(t, q, text)
	}
	// Nil is an empty one.
	does(t, q.Send(nil), api.OK)
	delivers(t, q, 1)
	polls(t, q, "")
}

// What was acked is polled still, however much that is.
func TestMoreWaitThanAreKept(t *testing.T) {
	q := queue(t, 1)
	for i := range 5000 {
		sends(t, q, string([]byte{byte(i), byte(i >> 8)}))
		delivers(t, q, 1)
		does(t, q.Ack(1), api.OK)
		is(t, q, 0, 0, i+1)
	}
	for i := range 5000 {
		m, ok := q.Poll()
		if want := []byte{byte(i), byte(i >> 8)}; !ok || !slices.Equal(m, want) {
			t.Fatalf("Poll() = %v, %v, want %v", m, ok, want)
		}
		is(t, q, 0, 0, 4999-i)
	}
	polls(t, q)
}

func TestAckRefuses(t *testing.T) {
	q := queue(t, 5)
	refuses := func(free int) {
		t.Helper()
		kept, under, waiting := q.Kept(), q.Under(), q.Waiting()
		for _, n := range append(far(), -1, -2, -64, free+1, free+2, 64, 65) {
			want := api.ErrMiss
			if n < 0 {
				want = api.ErrArg
			}
			does(t, q.Ack(n), want)
			is(t, q, kept, under, waiting)
		}
		does(t, q.Ack(0), api.OK)
		is(t, q, kept, under, waiting)
	}
	refuses(0)
	sends(t, q, "a", "b", "c", "d")
	refuses(0)
	delivers(t, q, 3)
	refuses(3)
	q.Poll()
	refuses(3)
	does(t, q.Ack(2), api.OK)
	refuses(1)
	q.Poll()
	q.Poll()
	does(t, q.Ack(1), api.OK)
	refuses(0)
}

func TestDeliverRefuses(t *testing.T) {
	q := queue(t, 2)
	does(t, q.Deliver(), api.ErrMiss)
	sends(t, q, "a")
	delivers(t, q, 1)
	does(t, q.Deliver(), api.ErrMiss)
	is(t, q, 1, 0, 1)
	q.Poll()
	does(t, q.Deliver(), api.ErrMiss)
	is(t, q, 1, 0, 0)
	q.Ack(1)
	does(t, q.Deliver(), api.ErrMiss)
	is(t, q, 0, 0, 0)
}

func TestANilQueue(t *testing.T) {
	var q *Queue
	does(t, q.Send(nil), api.ErrArg)
	does(t, q.Send(make([]byte, 65)), api.ErrArg)
	does(t, q.Deliver(), api.ErrArg)
	for _, n := range append(far(), -1, 0, 1) {
		does(t, q.Ack(n), api.ErrArg)
	}
	polls(t, q)
	is(t, q, 0, 0, 0)
}

// P1 of the document: one that New didn't make has room for none.
func TestAQueueThatNewDidNotMake(t *testing.T) {
	q := &Queue{}
	does(t, q.Send(nil), api.ErrFull)
	does(t, q.Send(make([]byte, 65)), api.ErrLong)
	does(t, q.Deliver(), api.ErrMiss)
	does(t, q.Ack(-1), api.ErrArg)
	does(t, q.Ack(0), api.OK)
	does(t, q.Ack(1), api.ErrMiss)
	polls(t, q)
	is(t, q, 0, 0, 0)
}

// P28.3

// over writes over a list, to the end of its room.
func over(b []byte) {
	for all, i := b[:cap(b)], 0; i < len(all); i++ {
		all[i] = 0x5a
	}
}

func TestNothingIsKeptOrShared(t *testing.T) {
	q := queue(t, 64)
	texts := []string{"", "one", "two", "three", "", "five", "six", "seven"}
	for _, text := range texts {
		all := append([]byte(text), 7, 7, 7, 7, 7, 7, 7, 7)
		m, want := all[:len(text)], slices.Clone(all)
		if e := q.Send(m); e != api.OK || !slices.Equal(all, want) {
			t.Fatalf("Send(%q): %d, %v", text, e, all)
		}
		over(all)
	}
	delivers(t, q, len(texts))
	for i, text := range texts {
		m, ok := q.Poll()
		if string(m) != text || !ok {
			t.Fatalf("Poll() = %q, %v, want %q", m, ok, text)
		}
		over(m)
		sends(t, q, text, texts[i])
	}
	delivers(t, q, 2*len(texts))
	for _, text := range texts {
		for range 2 {
			if m, ok := q.Poll(); string(m) != text || !ok {
				t.Fatalf("Poll() = %q, %v, want %q", m, ok, text)
			}
		}
	}
}
