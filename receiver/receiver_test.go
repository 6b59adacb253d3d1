package receiver

import (
	"math"
	"slices"
	"testing"

	"shuttle/ackmap"
	"shuttle/api"
	"shuttle/frame"
	"shuttle/harq"
	"shuttle/seq"
)

// by is the number so far ahead of a, or before it, in ints that don't come round by themselves.
func by(a seq.Num, n int) seq.Num { return seq.Num(((int(a)+n)%65536 + 65536) % 65536) }

// bases are numbers at both ends, at the middle, and near them.
func bases() []seq.Num {
	return []seq.Num{0, 1, 5, 1000, 32767, 32768, 32769, 65500, 65534, 65535}
}

// window is one of which the queue is none: a receiver doesn't look at it.
func window(size, pool int) api.Window { return api.Window{Size: size, Queue: -1, Pool: pool} }

// receiver is a new one.
func receiver(t *testing.T, first seq.Num, size, pool int) *Receiver {
	t.Helper()
	r, e := New(first, window(size, pool))
	if r == nil || e != api.OK {
		t.Fatalf("New(%d, %d, %d) = %v, %d", first, size, pool, r, e)
	}
	return r
}

// data is version v of a message, as it is sent.
func data(a seq.Num, v int, message string) frame.Frame {
	parts, _ := harq.Versions([]byte(message))
	return frame.Frame{Kind: frame.Data, Seq: a, Version: v, Len: len(message), Body: parts[v]}
}

// turned is a frame with some bits of its body turned.
func turned(f frame.Frame, at ...int) frame.Frame {
	f.Body = slices.Clone(f.Body)
	for _, i := range at {
		f.Body[i] ^= 1
	}
	return f
}

// noise is a frame with every third bit of its body turned: nobody reads it.
func noise(f frame.Frame) frame.Frame {
	var at []int
	for i := 0; i < len(f.Body); i += 3 {
		at = append(at, i)
	}
	return turned(f, at...)
}

// bruised are versions 2 and 0 of a message, with two bits of each turned: none tells it alone, both together do.
func bruised(a seq.Num, message string) (frame.Frame, frame.Frame) {
	return turned(data(a, 2, message), 20, 21), turned(data(a, 0, message), 20, 21)
}

// reads fails unless a frame's message is read.
func reads(t *testing.T, r *Receiver, f frame.Frame) {
	t.Helper()
	if ok, e := r.Data(f); !ok || e != api.OK {
		t.Fatalf("Data of %d, version %d: %v, %d, want true", f.Seq, f.Version, ok, e)
	}
}

// refuses fails unless a frame is answered by that error.
func refuses(t *testing.T, r *Receiver, f frame.Frame, want api.Errno) {
	t.Helper()
	if ok, e := r.Data(f); ok || e != want {
		t.Fatalf("Data of %d, version %d: %v, %d, want %d", f.Seq, f.Version, ok, e, want)
	}
}

// is fails unless a receiver tells all that.
func is(t *testing.T, r *Receiver, base seq.Num, more uint32, buffers, waiting int) {
	t.Helper()
	m := r.Map()
	if r.Base() != base || m.Base != base || m.More != more || r.Buffers() != buffers || r.Waiting() != waiting {
		t.Fatalf("base %d, %v, %d buffers, %d waiting; want %d, %b, %d, %d", r.Base(), m, r.Buffers(), r.Waiting(), base, more, buffers, waiting)
	}
}

// polls fails unless just these messages are polled, and none behind them.
func polls(t *testing.T, r *Receiver, want ...string) {
	t.Helper()
	for i, x := range want {
		if n := r.Waiting(); n != len(want)-i {
			t.Fatalf("%d are waiting, want %d", n, len(want)-i)
		}
		if m, ok := r.Poll(); !ok || string(m) != x {
			t.Fatalf("Poll() = %q, %v, want %q", m, ok, x)
		}
	}
	for range 2 {
		if m, ok := r.Poll(); ok || len(m) != 0 || r.Waiting() != 0 {
			t.Fatalf("Poll() = %q, %v, want none", m, ok)
		}
	}
}

// P24.1

func TestNew(t *testing.T) {
	for size := -2; size <= 34; size++ {
		for pool := -2; pool <= 18; pool++ {
			r, e := New(65535, window(size, pool))
			if size < 1 || size > 32 || pool < 1 || pool > 16 {
				if r != nil || e != api.ErrArg {
					t.Fatalf("New of %d and %d = %v, %d, want nothing and ErrArg", size, pool, r, e)
				}
				continue
			}
			if r == nil || e != api.OK {
				t.Fatalf("New of %d and %d = %v, %d", size, pool, r, e)
			}
			is(t, r, 65535, 0, 0, 0)
			polls(t, r)
		}
	}
	for _, n := range []int{1 << 32, 1<<32 + 1, -1 << 32, math.MaxInt, math.MinInt} {
		for _, w := range []api.Window{window(n, 1), window(1, n), window(n, n)} {
			if r, e := New(0, w); r != nil || e != api.ErrArg {
				t.Errorf("New of %v = %v, %d, want nothing and ErrArg", w, r, e)
			}
		}
	}
	for _, queue := range []int{math.MinInt, -1, 0, 1, 64, 65, math.MaxInt} {
		if r, e := New(0, api.Window{Size: 32, Queue: queue, Pool: 16}); r == nil || e != api.OK {
			t.Errorf("with a queue of %d: %d", queue, e)
		}
	}
}

func TestExample(t *testing.T) {
	for _, first := range bases() {
		r := receiver(t, first, 2, 1)
		reads(t, r, data(by(first, 1), 0, "b"))
		is(t, r, first, 1, 0, 0)
		polls(t, r)
		reads(t, r, data(first, 0, "a"))
		is(t, r, by(first, 2), 0, 0, 2)
		polls(t, r, "a", "b")
	}
}

func TestEachVersionOfEachLength(t *testing.T) {
	r := receiver(t, 65500, 1, 1)
	for n := range 65 {
		m := make([]byte, n)
		for i := range m {
			m[i] = byte(37*i + n)
		}
		for v := range 4 {
			reads(t, r, data(r.Base(), v, string(m)))
			polls(t, r, string(m))
		}
	}
	is(t, r, by(65500, 4*65), 0, 0, 0)
}

func TestDataRefusesAnotherKind(t *testing.T) {
	r := receiver(t, 10, 4, 2)
	for _, kind := range []int{0, 2, 3, -1, 16, 1<<32 + 1, math.MaxInt, math.MinInt} {
		// The kind is looked for first: what else is wrong doesn't count.
		for _, a := range []seq.Num{10, 9, 14} {
			f := data(a, 0, "m")
			f.Kind = kind
			refuses(t, r, f, api.ErrKind)
			f.Len, f.Version, f.Body = 65, 4, []byte{2}
			refuses(t, r, f, api.ErrKind)
		}
	}
	is(t, r, 10, 0, 0, 0)
}

func TestDataRefusesOldOnes(t *testing.T) {
	for _, first := range bases() {
		r := receiver(t, first, 4, 2)
		reads(t, r, data(by(first, 2), 1, "c"))
		reads(t, r, data(first, 1, "a"))
		is(t, r, by(first, 1), 0b1, 0, 1)
		for _, n := range []int{0, 2, -1, -2, -1000, -32766} {
			for v := range 4 {
				refuses(t, r, data(by(first, n), v, "x"), api.ErrOld)
			}
			// It is looked for ahead of what else may be wrong.
			f := data(by(first, n), 0, "x")
			f.Len = 65
			refuses(t, r, f, api.ErrOld)
			f.Len, f.Version = 1, 4
			refuses(t, r, f, api.ErrOld)
		}
		is(t, r, by(first, 1), 0b1, 0, 1)
		polls(t, r, "a")
		// What was polled has come still.
		refuses(t, r, data(first, 0, "a"), api.ErrOld)
		reads(t, r, data(by(first, 1), 0, "b"))
		polls(t, r, "b", "c")
	}
}

func TestDataRefusesFarOnes(t *testing.T) {
	for _, first := range bases() {
		for _, size := range []int{1, 2, 31, 32} {
			r := receiver(t, first, size, 2)
			for _, n := range []int{size, size + 1, 64, 1000, 32766, 32767, 32768} {
				refuses(t, r, data(by(first, n), 0, "x"), api.ErrFar)
				// It is looked for ahead of what else may be wrong.
				f := data(by(first, n), 0, "x")
				f.Len = -1
				refuses(t, r, f, api.ErrFar)
			}
			is(t, r, first, 0, 0, 0)
			reads(t, r, data(by(first, size-1), 0, "last"))
			if size == 1 {
				is(t, r, by(first, 1), 0, 0, 1)
				continue
			}
			is(t, r, first, 1<<(size-2), 0, 0)
			// The window goes on with base.
			refuses(t, r, data(by(first, size), 0, "x"), api.ErrFar)
			reads(t, r, data(first, 0, "first"))
			if size > 2 {
				reads(t, r, data(by(first, size), 0, "next"))
			}
		}
	}
}

func TestDataRefusesALength(t *testing.T) {
	for _, n := range []int{-1, -64, 65, 66, 128, 1<<32 + 1, math.MaxInt, math.MinInt} {
		r := receiver(t, 0, 4, 1)
		f := data(1, 0, "m")
		f.Len = n
		refuses(t, r, f, api.ErrLong)
		is(t, r, 0, 0, 0, 0)
		// Where there is a process the same is answered, and it stays as it was.
		late, early := bruised(1, "hi")
		refuses(t, r, late, api.ErrNoise)
		refuses(t, r, f, api.ErrLong)
		// And it is looked for ahead of room.
		f.Seq = 2
		refuses(t, r, f, api.ErrLong)
		is(t, r, 0, 0, 1, 0)
		reads(t, r, early)
		is(t, r, 0, 1, 0, 0)
	}
}

// What can be no version of the message is refused, and the process that the pool gave stays.
func TestDataRefusesABody(t *testing.T) {
	for i, c := range []struct {
		version, n int
		body       []byte
		want       api.Errno
	}{
		{-1, 2, nil, api.ErrArg}, {4, 2, nil, api.ErrArg}, {math.MaxInt, 2, []byte{2}, api.ErrArg}, {math.MinInt, 2, nil, api.ErrArg},
		{0, 2, []byte{2}, api.ErrField}, {3, 0, []byte{0, 1, 255}, api.ErrField},
		{0, 2, nil, api.ErrForm}, {0, 2, make([]byte, 53), api.ErrForm}, {0, 2, make([]byte, 55), api.ErrForm}, {1, 0, make([]byte, 37), api.ErrForm},
	} {
		r := receiver(t, 65535, 4, 2)
		f := frame.Frame{Kind: frame.Data, Seq: 0, Version: c.version, Len: c.n, Body: c.body}
		refuses(t, r, f, c.want)
		is(t, r, 65535, 0, 1, 0)
		late, early := bruised(0, "hi")
		refuses(t, r, late, api.ErrNoise)
		refuses(t, r, f, c.want)
		is(t, r, 65535, 0, 1, 0)
		if ok, e := r.Data(early); !ok || e != api.OK {
			t.Fatalf("case %d: what was refused changed what came: %d", i, e)
		}
		is(t, r, 65535, 1, 0, 0)
	}
}

func TestDataPutsTogether(t *testing.T) {
	r := receiver(t, 7, 4, 4)
	late, early := bruised(8, "hi")
	refuses(t, r, late, api.ErrNoise)
	is(t, r, 7, 0, 1, 0)
	other, another := bruised(7, "ho")
	refuses(t, r, other, api.ErrNoise)
	is(t, r, 7, 0, 2, 0)
	reads(t, r, early)
	is(t, r, 7, 1, 1, 0)
	reads(t, r, another)
	is(t, r, 9, 0, 0, 2)
	polls(t, r, "ho", "hi")
	// Alone none of them is read.
	r = receiver(t, 7, 4, 4)
	_, early = bruised(7, "hi")
	refuses(t, r, early, api.ErrNoise)
	is(t, r, 7, 0, 1, 0)
}

// Of another length a message's process begins anew.
func TestAnotherLength(t *testing.T) {
	r := receiver(t, 0, 1, 1)
	late, early := bruised(0, "hi")
	refuses(t, r, late, api.ErrNoise)
	refuses(t, r, noise(data(0, 1, "hey")), api.ErrNoise)
	is(t, r, 0, 0, 1, 0)
	refuses(t, r, early, api.ErrNoise)
	refuses(t, r, noise(data(0, 1, "hey")), api.ErrNoise)
	reads(t, r, data(0, 3, "hey"))
	polls(t, r, "hey")
}

func TestTheFarthestGoes(t *testing.T) {
	for _, first := range bases() {
		r := receiver(t, first, 8, 2)
		late, early := bruised(by(first, 5), "hi")
		refuses(t, r, late, api.ErrNoise)
		refuses(t, r, noise(data(by(first, 3), 0, "m")), api.ErrNoise)
		// There is no room for one that is farther, though it could be read.
		refuses(t, r, data(by(first, 6), 0, "m"), api.ErrFull)
		is(t, r, first, 0, 2, 0)
		// One that is nearer has the farthest one's room.
		refuses(t, r, noise(data(by(first, 4), 0, "m")), api.ErrNoise)
		is(t, r, first, 0, 2, 0)
		refuses(t, r, early, api.ErrFull)
		reads(t, r, data(by(first, 4), 1, "e"))
		is(t, r, first, 0b1000, 1, 0)
		// What had to go is forgotten: it begins anew.
		refuses(t, r, early, api.ErrNoise)
		reads(t, r, late)
		is(t, r, first, 0b11000, 1, 0)
		// Base itself always has room.
		refuses(t, r, noise(data(by(first, 2), 0, "m")), api.ErrNoise)
		reads(t, r, data(first, 0, "a"))
		is(t, r, by(first, 1), 0b1100, 1, 1)
		reads(t, r, data(by(first, 2), 1, "c"))
		reads(t, r, data(by(first, 1), 1, "b"))
		reads(t, r, data(by(first, 3), 1, "d"))
		is(t, r, by(first, 6), 0, 0, 6)
		polls(t, r, "a", "b", "c", "d", "e", "hi")
	}
}

// The one that had to go is gone, also where the one that has its room is refused.
func TestTheFarthestGoesForOneThatIsRefused(t *testing.T) {
	r := receiver(t, 0, 4, 1)
	late, early := bruised(2, "hi")
	refuses(t, r, late, api.ErrNoise)
	f := data(1, 0, "m")
	f.Body = nil
	refuses(t, r, f, api.ErrForm)
	is(t, r, 0, 0, 1, 0)
	refuses(t, r, early, api.ErrFull)
	reads(t, r, data(1, 0, "m"))
	refuses(t, r, early, api.ErrNoise)
}

// Another kind's fields, those of an ack, aren't looked at.
func TestDataDoesNotLookAtTheMap(t *testing.T) {
	r := receiver(t, 3, 1, 1)
	f := data(3, 0, "m")
	f.Map = ackmap.Map{Base: 9, More: 77}
	reads(t, r, f)
	is(t, r, 4, 0, 0, 1)
}

func TestMap(t *testing.T) {
	for _, first := range bases() {
		r := receiver(t, first, 32, 1)
		var more uint32
		for _, n := range []int{31, 1, 17, 16, 2, 30, 15} {
			reads(t, r, data(by(first, n), 0, "m"))
			more |= 1 << (n - 1)
			is(t, r, first, more, 0, 0)
		}
		reads(t, r, data(first, 0, "m"))
		is(t, r, by(first, 3), more>>3, 0, 3)
		m := r.Map()
		for n := -100; n < 100; n++ {
			want := n < 3 || n >= 15 && n <= 17 || n == 30 || n == 31
			if ackmap.Has(m, by(first, n)) != want {
				t.Errorf("from %d on, has %d come? %v", first, n, !want)
			}
		}
	}
}

func TestPollWhileMessagesCome(t *testing.T) {
	r := receiver(t, 65534, 2, 1)
	polls(t, r)
	reads(t, r, data(65534, 0, "a"))
	reads(t, r, data(65535, 0, ""))
	reads(t, r, data(0, 0, "c"))
	is(t, r, 1, 0, 0, 3)
	if m, ok := r.Poll(); string(m) != "a" || !ok {
		t.Fatalf("%q, %v", m, ok)
	}
	reads(t, r, data(1, 0, "d"))
	// A message of no bytes is one, too.
	polls(t, r, "", "c", "d")
	reads(t, r, data(2, 0, ""))
	polls(t, r, "")
}

func TestANilReceiver(t *testing.T) {
	var r *Receiver
	refuses(t, r, data(0, 0, "m"), api.ErrArg)
	refuses(t, r, frame.Frame{}, api.ErrArg)
	is(t, r, 0, 0, 0, 0)
	polls(t, r)
}

// To a receiver that New didn't make all is too far ahead.
func TestAnEmptyReceiver(t *testing.T) {
	r := &Receiver{}
	refuses(t, r, data(0, 0, "m"), api.ErrFar)
	refuses(t, r, data(65535, 0, "m"), api.ErrOld)
	refuses(t, r, frame.Frame{}, api.ErrKind)
	is(t, r, 0, 0, 0, 0)
	polls(t, r)
}

func TestReceiversAreApart(t *testing.T) {
	a, b := receiver(t, 0, 4, 2), receiver(t, 0, 4, 2)
	reads(t, a, data(1, 0, "b"))
	refuses(t, a, noise(data(2, 0, "c")), api.ErrNoise)
	is(t, b, 0, 0, 0, 0)
	reads(t, a, data(0, 0, "a"))
	is(t, b, 0, 0, 0, 0)
	polls(t, b)
	polls(t, a, "a", "b")
}
