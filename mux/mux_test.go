package mux

import (
	"math"
	"slices"
	"testing"

	"shuttle/api"
	"shuttle/link"
	"shuttle/seq"
)

// config is one of a link.
func config(size, queue, pool int, out, in seq.Num) link.Config {
	return link.Config{Window: api.Window{Size: size, Queue: queue, Pool: pool}, Out: out, In: in}
}

// small is the least one.
func small() link.Config { return config(1, 1, 1, 0, 0) }

// is fails unless an answer is that error.
func is(t *testing.T, got, want api.Errno) {
	t.Helper()
	if got != want {
		t.Fatalf("%d, want %d", got, want)
	}
}

// numbers fails unless just these are open, and their links are there.
func numbers(t *testing.T, m *Mux, want ...int) {
	t.Helper()
	if got := m.Numbers(); !slices.Equal(got, want) {
		t.Fatalf("%v are open, want %v", got, want)
	}
	for n := -2; n < 260; n++ {
		if (m.Link(n) != nil) != slices.Contains(want, n) {
			t.Fatalf("a link of the number %d: %v", n, m.Link(n))
		}
	}
}

// noNumbers are numbers that no link has.
func noNumbers() []int {
	return []int{-1, -256, 256, 257, 511, 512, 1 << 16, 1 << 32, 1<<32 + 7, math.MaxInt, math.MinInt, math.MinInt + 7}
}

// opened is a mux with links of such numbers, of the least config.
func opened(t *testing.T, n ...int) *Mux {
	t.Helper()
	m := New()
	for _, x := range n {
		is(t, m.Open(x, small()), api.OK)
	}
	return m
}

// P36.1

func TestNew(t *testing.T) {
	m := New()
	if m == nil || m == New() {
		t.Fatal("it isn't a new one")
	}
	numbers(t, m)
	if len(m.Tick()) != 0 || m.Lost() != 0 {
		t.Error("something goes out of no link")
	}
}

func TestExample(t *testing.T) {
	m := opened(t, 7)
	is(t, m.Link(7).Send([]byte("a")), api.OK)
	l := m.Tick()
	if len(l) != 1 || l[0][0] != 7 {
		t.Fatalf("%v", l)
	}
	if l = m.Tick(); len(l) != 0 {
		t.Fatalf("%v", l)
	}
}

func TestOpen(t *testing.T) {
	m := New()
	for i, n := range []int{7, 255, 0, 100, 8, 6, 254, 1} {
		is(t, m.Open(n, small()), api.OK)
		is(t, m.Open(n, small()), api.ErrOld)
		want := []int{7, 255, 0, 100, 8, 6, 254, 1}[:i+1]
		slices.Sort(want)
		numbers(t, m, want...)
	}
	for _, n := range noNumbers() {
		is(t, m.Open(n, small()), api.ErrArg)
	}
	numbers(t, m, 0, 1, 6, 7, 8, 100, 254, 255)
}

func TestOpenOfWhatIsNoConfig(t *testing.T) {
	m := opened(t, 3)
	for _, c := range []link.Config{
		{}, config(0, 1, 1, 0, 0), config(33, 64, 1, 0, 0), config(2, 1, 1, 0, 0), config(1, 65, 1, 0, 0), config(1, 1, 0, 0, 0), config(1, 1, 17, 0, 0), config(-1, 1, 1, 0, 0),
	} {
		is(t, m.Open(4, c), api.ErrArg)
		// It is ErrArg, too, where there is one of that number.
		is(t, m.Open(3, c), api.ErrArg)
		is(t, m.Open(300, c), api.ErrArg)
	}
	numbers(t, m, 3)
	is(t, m.Open(4, config(32, 64, 16, 65535, 65535)), api.OK)
	numbers(t, m, 3, 4)
}

func TestNoMoreThan16(t *testing.T) {
	m := New()
	for i := range 16 {
		is(t, m.Open(16*i+i, small()), api.OK)
	}
	all := m.Numbers()
	if len(all) != 16 {
		t.Fatalf("%v", all)
	}
	for n := range 256 {
		// What is wrong with the number, or the config, is told first, then that there is one, then that there are 16.
		want := api.ErrFull
		if slices.Contains(all, n) {
			want = api.ErrOld
		}
		is(t, m.Open(n, small()), want)
		is(t, m.Open(n, link.Config{}), api.ErrArg)
	}
	is(t, m.Open(256, small()), api.ErrArg)
	numbers(t, m, all...)
	is(t, m.Close(17), api.OK)
	is(t, m.Open(18, small()), api.OK)
	is(t, m.Open(19, small()), api.ErrFull)
	is(t, m.Open(17, small()), api.ErrFull)
}

func TestTheLinkOfAConfig(t *testing.T) {
	m := New()
	is(t, m.Open(9, config(2, 3, 1, 65535, 1000)), api.OK)
	e := m.Link(9)
	if e != m.Link(9) || e.Sender().Base() != 65535 || e.Receiver().Base() != 1000 {
		t.Fatalf("it sends from %d, and receives from %d", e.Sender().Base(), e.Receiver().Base())
	}
	for i := range 4 {
		want := api.OK
		if i == 3 {
			want = api.ErrFull
		}
		is(t, e.Send(nil), want)
	}
	if l := m.Tick(); len(l) != 2 {
		t.Errorf("%v", l)
	}
}

func TestClose(t *testing.T) {
	m := opened(t, 5, 1, 9)
	for _, n := range append(noNumbers(), 0, 2, 4, 6, 255) {
		is(t, m.Close(n), api.ErrMiss)
		if m.Link(n) != nil {
			t.Fatalf("there is a link of %d", n)
		}
	}
	numbers(t, m, 1, 5, 9)
	five := m.Link(5)
	is(t, five.Send([]byte("a")), api.OK)
	is(t, m.Close(5), api.OK)
	numbers(t, m, 1, 9)
	is(t, m.Close(5), api.ErrMiss)
	if l := m.Tick(); len(l) != 0 {
		t.Errorf("of a closed one %v go out", l)
	}
	// What is opened by that number is a new one.
	is(t, m.Open(5, small()), api.OK)
	if e := m.Link(5); e == five || !e.Idle() || five.Idle() {
		t.Error("it isn't a new one")
	}
	is(t, m.Close(1), api.OK)
	is(t, m.Close(9), api.OK)
	is(t, m.Close(5), api.OK)
	numbers(t, m)
	is(t, m.Close(5), api.ErrMiss)
}

// Of each link all frames go out, one behind the other, as it tells them; the links rise by their numbers.
func TestTick(t *testing.T) {
	m := New()
	alone := map[int]*link.End{}
	order := []int{200, 3, 0, 255, 130}
	for i, n := range order {
		c := config(1+i, 8, 1, seq.Num(n), 0)
		is(t, m.Open(n, c), api.OK)
		alone[n], _ = link.New(c)
		for j := range 6 - i {
			b := []byte{byte(n), byte(j)}
			is(t, m.Link(n).Send(b), api.OK)
			alone[n].Send(b)
		}
	}
	slices.Sort(order)
	for tick := range 20 {
		var want [][]byte
		for _, n := range order {
			for _, f := range alone[n].Tick() {
				want = append(want, append([]byte{byte(n)}, f...))
			}
		}
		if got := m.Tick(); !slices.EqualFunc(got, want, slices.Equal[[]byte]) {
			t.Fatalf("tick %d: %v, want %v", tick, got, want)
		}
	}
}

func TestOnDatagram(t *testing.T) {
	m, other := New(), New()
	for _, n := range []int{0, 65, 255} {
		is(t, m.Open(n, config(2, 2, 1, 7, 70)), api.OK)
		is(t, other.Open(n, config(2, 2, 1, 70, 7)), api.OK)
		is(t, m.Link(n).Send([]byte{byte(n)}), api.OK)
	}
	l := m.Tick()
	if len(l) != 3 {
		t.Fatalf("%v", l)
	}
	for i, n := range []byte{0, 65, 255} {
		acks := other.OnDatagram(l[i])
		if len(acks) != 1 || acks[0][0] != n {
			t.Fatalf("%v", acks)
		}
		if b, ok := other.Link(int(n)).Poll(); !ok || len(b) != 1 || b[0] != n {
			t.Errorf("link %d polled %v, %v", n, b, ok)
		}
		if out := m.OnDatagram(acks[0]); len(out) != 0 {
			t.Errorf("of an ack %v go out", out)
		}
		for _, x := range []int{0, 65, 255} {
			if m.Link(x).Idle() != (x <= int(n)) {
				t.Errorf("behind the ack of %d link %d is idle: %v", n, x, m.Link(x).Idle())
			}
		}
	}
	if m.Lost()+other.Lost() != 0 {
		t.Errorf("%d, %d are lost", m.Lost(), other.Lost())
	}
}

func TestLost(t *testing.T) {
	m := opened(t, 0, 65)
	lost := 0
	for _, b := range [][]byte{nil, {}, {1}, {64, 1, 2}, {66}, {255}, {255, 0}} {
		lost++
		if l := m.OnDatagram(b); len(l) != 0 || m.Lost() != lost {
			t.Errorf("of %v %v go out, and %d are lost", b, l, m.Lost())
		}
	}
	for _, n := range []int{0, 65} {
		if m.Link(n).Counts() != (link.Counts{}) {
			t.Errorf("something came to %d", n)
		}
		// What is no frame is that link's, and isn't lost.
		for i, b := range [][]byte{{byte(n)}, {byte(n), 65}, {byte(n), 0, 0, 0}} {
			if l := m.OnDatagram(b); len(l) != 0 || m.Link(n).Counts() != (link.Counts{Bad: i + 1}) {
				t.Errorf("of %v %v go out: %+v", b, l, m.Link(n).Counts())
			}
		}
	}
	if m.Lost() != lost {
		t.Errorf("%d are lost, want %d", m.Lost(), lost)
	}
	is(t, m.Close(65), api.OK)
	m.OnDatagram([]byte{65})
	m.OnDatagram([]byte{0})
	if m.Lost() != lost+1 {
		t.Errorf("%d are lost, want %d", m.Lost(), lost+1)
	}
	is(t, m.Open(65, small()), api.OK)
	m.OnDatagram([]byte{65})
	if m.Lost() != lost+1 {
		t.Errorf("%d are lost, want %d", m.Lost(), lost+1)
	}
}

func TestNilMux(t *testing.T) {
	var m *Mux
	for _, n := range append(noNumbers(), 0, 7, 255) {
		is(t, m.Open(n, small()), api.ErrArg)
		is(t, m.Open(n, link.Config{}), api.ErrArg)
		is(t, m.Close(n), api.ErrArg)
		if m.Link(n) != nil {
			t.Error("a nil mux has a link")
		}
	}
	if len(m.Numbers()) != 0 || len(m.Tick()) != 0 || len(m.OnDatagram(nil)) != 0 || len(m.OnDatagram([]byte{7, 1})) != 0 || m.Lost() != 0 {
		t.Error("a nil mux has something")
	}
}

func TestAMuxThatNewDidNotMake(t *testing.T) {
	m := &Mux{}
	numbers(t, m)
	is(t, m.Close(7), api.ErrMiss)
	m.OnDatagram([]byte{7})
	is(t, m.Open(7, small()), api.OK)
	is(t, m.Link(7).Send(nil), api.OK)
	if l := m.Tick(); len(l) != 1 || l[0][0] != 7 || m.Lost() != 1 {
		t.Errorf("%v, %d are lost", l, m.Lost())
	}
	numbers(t, m, 7)
}

// P36.3

// over writes over a list, to the end of its room.
func over(b []byte) {
	for all, i := b[:cap(b)], 0; i < len(all); i++ {
		all[i] = 'z'
	}
}

// comes hands a datagram over with room behind it, which mustn't be changed, and writes over all of it behind the call.
func comes(t *testing.T, m *Mux, b []byte) [][]byte {
	t.Helper()
	room := append(slices.Clone(b), 7, 7, 7, 7, 7, 7, 7, 7)
	want := slices.Clone(room)
	l := m.OnDatagram(room[:len(b)])
	if !slices.Equal(room, want) {
		t.Fatalf("%v, want %v", room, want)
	}
	var copies [][]byte
	for _, x := range l {
		copies = append(copies, slices.Clone(x))
	}
	over(room)
	if !slices.EqualFunc(l, copies, slices.Equal[[]byte]) {
		t.Fatal("what goes out shares memory with what came")
	}
	return l
}

// apart fails if two of some lists share memory; it writes over all of them.
func apart(t *testing.T, l [][]byte) {
	t.Helper()
	var copies [][]byte
	for _, b := range l {
		copies = append(copies, slices.Clone(b))
	}
	for i := range l {
		over(l[i])
		if !slices.EqualFunc(l[i+1:], copies[i+1:], slices.Equal[[]byte]) {
			t.Fatal("two lists of one answer share memory")
		}
	}
}

func TestNothingIsKeptOrShared(t *testing.T) {
	m, other := New(), New()
	for _, n := range []int{4, 5} {
		is(t, m.Open(n, config(4, 4, 1, 0, 0)), api.OK)
		is(t, other.Open(n, config(4, 4, 1, 0, 0)), api.OK)
		for _, x := range []string{"one", "two"} {
			is(t, m.Link(n).Send([]byte(x)), api.OK)
		}
	}
	all := m.Numbers()
	all[0], all[1] = 9, 9
	if !slices.Equal(m.Numbers(), []int{4, 5}) {
		t.Fatal("the numbers are shared")
	}
	apart(t, m.Tick())
	m.Tick()
	for _, b := range m.Tick() {
		for _, ack := range comes(t, other, b) {
			comes(t, m, ack)
			over(ack)
		}
	}
	for _, n := range []int{4, 5} {
		for _, want := range []string{"one", "two"} {
			if b, ok := other.Link(n).Poll(); !ok || string(b) != want {
				t.Errorf("%q, %v, want %q", b, ok, want)
			}
		}
		if !m.Link(n).Idle() {
			t.Errorf("link %d isn't idle", n)
		}
	}
}
