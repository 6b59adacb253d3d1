package channel

import (
	"math"
	"math/rand/v2"
	"slices"
	"testing"

	"shuttle/api"
)

// channel is a new one.
func channel(t *testing.T, age int) *Channel {
	t.Helper()
	c, e := New(age)
	if c == nil || e != api.OK {
		t.Fatalf("New(%d) = %v, %d", age, c, e)
	}
	return c
}

// is fails unless a channel has so many flights, at that step.
func is(t *testing.T, c *Channel, n, now int) {
	t.Helper()
	if c.Len() != n || c.Now() != now {
		t.Fatalf("%d under way at the step %d, want %d at %d", c.Len(), c.Now(), n, now)
	}
}

// takes fails unless the k-th flight is that.
func takes(t *testing.T, c *Channel, k int, bytes, was string, since int) {
	t.Helper()
	f, e := c.Take(k)
	if e != api.OK || string(f.Bytes) != bytes || string(f.Was) != was || f.Since != since {
		t.Fatalf("Take(%d) = %q, %q, %d, %d, want %q, %q, %d", k, f.Bytes, f.Was, f.Since, e, bytes, was, since)
	}
}

// does fails unless an error is that.
func does(t *testing.T, got, want api.Errno) {
	t.Helper()
	if got != want {
		t.Fatalf("%d, want %d", got, want)
	}
}

// puts puts each text.
func puts(c *Channel, texts ...string) {
	for _, x := range texts {
		c.Put([]byte(x))
	}
}

// P26.1

func TestNew(t *testing.T) {
	for age := -5; age <= 1010; age++ {
		c, e := New(age)
		if age < 1 || age > 1000 {
			if c != nil || e != api.ErrArg {
				t.Fatalf("New(%d) = %v, %d, want nothing and ErrArg", age, c, e)
			}
			continue
		}
		if c == nil || e != api.OK {
			t.Fatalf("New(%d) = %v, %d", age, c, e)
		}
		is(t, c, 0, 0)
	}
	for _, age := range []int{1 << 32, 1<<32 + 1, -1 << 32, math.MaxInt, math.MinInt} {
		if c, e := New(age); c != nil || e != api.ErrArg {
			t.Errorf("New(%d) = %v, %d, want nothing and ErrArg", age, c, e)
		}
	}
}

func TestExample(t *testing.T) {
	c := channel(t, 5)
	puts(c, "a", "b")
	takes(t, c, 1, "b", "b", 0)
	is(t, c, 1, 0)
	takes(t, c, 0, "a", "a", 0)
	is(t, c, 0, 0)
}

func TestPutPutsBehind(t *testing.T) {
	c := channel(t, 5)
	puts(c, "a", "", "c")
	c.Step()
	puts(c, "d", "a")
	is(t, c, 5, 1)
	takes(t, c, 3, "d", "d", 1)
	takes(t, c, 0, "a", "a", 0)
	takes(t, c, 0, "", "", 0)
	puts(c, "f")
	takes(t, c, 2, "f", "f", 1)
	takes(t, c, 1, "a", "a", 1)
	takes(t, c, 0, "c", "c", 0)
	is(t, c, 0, 1)
	c.Put(nil)
	takes(t, c, 0, "", "", 1)
}

func TestAFlightThereIsNot(t *testing.T) {
	c := channel(t, 5)
	for n := range 3 {
		for _, k := range []int{-1, n, n + 1, 4096, 1 << 32, -1 << 32, math.MaxInt, math.MinInt} {
			f, e := c.Take(k)
			if e != api.ErrMiss || len(f.Bytes) != 0 || len(f.Was) != 0 || f.Since != 0 {
				t.Errorf("Take(%d) of %d = %v, %d", k, n, f, e)
			}
			does(t, c.Lose(k), api.ErrMiss)
			does(t, c.Twice(k), api.ErrMiss)
			does(t, c.Turn(k, []int{0}), api.ErrMiss)
			is(t, c, n, n)
		}
		c.Step()
		puts(c, "x")
	}
	takes(t, c, 0, "x", "x", 1)
	takes(t, c, 0, "x", "x", 2)
	takes(t, c, 0, "x", "x", 3)
}

func TestLose(t *testing.T) {
	c := channel(t, 5)
	puts(c, "a", "b", "c", "d")
	does(t, c.Lose(1), api.OK)
	is(t, c, 3, 0)
	does(t, c.Lose(2), api.OK)
	is(t, c, 2, 0)
	takes(t, c, 1, "c", "c", 0)
	does(t, c.Lose(0), api.OK)
	is(t, c, 0, 0)
	does(t, c.Lose(0), api.ErrMiss)
}

func TestTwice(t *testing.T) {
	c := channel(t, 5)
	puts(c, "a", "b")
	c.Step()
	puts(c, "c")
	does(t, c.Turn(1, []int{7}), api.OK)
	does(t, c.Twice(1), api.OK)
	does(t, c.Twice(2), api.OK)
	is(t, c, 5, 1)
	takes(t, c, 4, "c", "c", 1)
	takes(t, c, 3, "c", "b", 0)
	takes(t, c, 1, "c", "b", 0)
	takes(t, c, 1, "c", "c", 1)
	takes(t, c, 0, "a", "a", 0)
	// Of one that is doubled twice there are three.
	puts(c, "x")
	does(t, c.Twice(0), api.OK)
	does(t, c.Twice(1), api.OK)
	for range 3 {
		takes(t, c, 0, "x", "x", 1)
	}
	is(t, c, 0, 1)
}

// What is done to one of two doubled flights isn't done to the other one.
func TestTheTwoAreTurnedByThemselves(t *testing.T) {
	c := channel(t, 5)
	puts(c, "aa")
	does(t, c.Twice(0), api.OK)
	does(t, c.Turn(0, []int{6}), api.OK)
	does(t, c.Turn(1, []int{14, 15}), api.OK)
	does(t, c.Twice(0), api.OK)
	does(t, c.Turn(2, []int{6, 7}), api.OK)
	takes(t, c, 2, "`a", "aa", 0)
	takes(t, c, 1, "ab", "aa", 0)
	takes(t, c, 0, "ca", "aa", 0)
}

func TestTurn(t *testing.T) {
	for _, x := range []struct {
		put  string
		at   []int
		want string
	}{
		{"\x00\x00", nil, "\x00\x00"},
		{"\x00\x00", []int{0}, "\x80\x00"},
		{"\x00\x00", []int{7}, "\x01\x00"},
		{"\x00\x00", []int{8}, "\x00\x80"},
		{"\x00\x00", []int{15}, "\x00\x01"},
		{"\xff\xff", []int{15, 0, 3}, "\x6f\xfe"},
		{"\x00\x00", []int{3, 3}, "\x00\x00"},
		{"\x00\x00", []int{3, 5, 3, 3}, "\x14\x00"},
		{"\x00\x00", []int{16, -1, 17, 1 << 32, math.MaxInt, math.MinInt}, "\x00\x00"},
		{"\x00\x00", []int{16, 1, -8}, "\x40\x00"},
		{"", []int{0, 1, -1}, ""},
		{"a", []int{1, 2, 3, 4, 5, 6, 7, 0}, "\x9e"},
	} {
		c := channel(t, 5)
		puts(c, "before", x.put, "behind")
		does(t, c.Turn(1, x.at), api.OK)
		is(t, c, 3, 0)
		takes(t, c, 1, x.want, x.put, 0)
		takes(t, c, 0, "before", "before", 0)
		takes(t, c, 0, "behind", "behind", 0)
	}
}

// Turned again, bits are as they were; Was is as it was put always.
func TestTurnAgain(t *testing.T) {
	c := channel(t, 5)
	puts(c, "hello")
	for i := range 40 {
		does(t, c.Turn(0, []int{i}), api.OK)
	}
	does(t, c.Twice(0), api.OK)
	takes(t, c, 1, "\x97\x9a\x93\x93\x90", "hello", 0)
	for i := range 40 {
		does(t, c.Turn(0, []int{39 - i}), api.OK)
	}
	takes(t, c, 0, "hello", "hello", 0)
}

// P26.1, P26.2

func TestAge(t *testing.T) {
	for _, age := range []int{2, 3, 10, 999, 1000} {
		c := channel(t, age)
		puts(c, "a", "b", "c")
		for step := 1; step < age; step++ {
			if n := c.Step(); n != 0 {
				t.Fatalf("of the age %d: %d are gone at the step %d", age, n, step)
			}
			is(t, c, 3, step)
		}
		takes(t, c, 1, "b", "b", 0)
		puts(c, "d")
		if n := c.Step(); n != 2 {
			t.Fatalf("of the age %d: %d are gone", age, n)
		}
		is(t, c, 1, age)
		takes(t, c, 0, "d", "d", age-1)
	}
}

// Of the least age none outlives a step.
func TestTheLeastAge(t *testing.T) {
	c := channel(t, 1)
	for now := range 5 {
		puts(c, "a", "b")
		takes(t, c, 1, "b", "b", now)
		does(t, c.Twice(0), api.OK)
		if n := c.Step(); n != 2 {
			t.Errorf("%d are gone, want 2", n)
		}
		is(t, c, 0, now+1)
	}
}

// Those that are too old go from wherever they stand, and a doubled one is as old as the one it is like.
func TestTheOldOnesGo(t *testing.T) {
	c := channel(t, 2)
	puts(c, "a", "b")
	c.Step()
	puts(c, "c")
	does(t, c.Twice(0), api.OK)
	puts(c, "d")
	does(t, c.Turn(3, []int{7}), api.OK)
	is(t, c, 5, 1)
	if n := c.Step(); n != 3 {
		t.Errorf("%d are gone, want 3", n)
	}
	is(t, c, 2, 2)
	puts(c, "e")
	if n := c.Step(); n != 2 {
		t.Errorf("%d are gone, want 2", n)
	}
	takes(t, c, 0, "e", "e", 2)
	for range 3 {
		if n := c.Step(); n != 0 {
			t.Errorf("%d are gone, want none", n)
		}
	}
	is(t, c, 0, 6)
}

// P26.1

func TestNoMoreThan4096(t *testing.T) {
	c := channel(t, 2)
	for i := range 4095 {
		c.Put([]byte{byte(i), byte(i >> 8)})
	}
	is(t, c, 4095, 0)
	does(t, c.Twice(0), api.OK)
	is(t, c, 4096, 0)
	does(t, c.Twice(0), api.ErrFull)
	does(t, c.Twice(4095), api.ErrFull)
	// Where there is none that can't be doubled for want of room.
	does(t, c.Twice(4096), api.ErrMiss)
	does(t, c.Twice(-1), api.ErrMiss)
	c.Put([]byte("x"))
	is(t, c, 4096, 0)
	does(t, c.Turn(4095, []int{0}), api.OK)
	takes(t, c, 4095, "\x80\x00", "\x00\x00", 0)
	takes(t, c, 4094, "\xfe\x0f", "\xfe\x0f", 0)
	c.Step()
	c.Put([]byte("y"))
	does(t, c.Twice(4094), api.OK)
	c.Put([]byte("z"))
	is(t, c, 4096, 1)
	does(t, c.Lose(0), api.OK)
	c.Put([]byte("z"))
	is(t, c, 4096, 1)
	takes(t, c, 4095, "z", "z", 1)
	takes(t, c, 4094, "y", "y", 1)
	if n := c.Step(); n != 4093 {
		t.Errorf("%d are gone, want 4093", n)
	}
	is(t, c, 1, 2)
	takes(t, c, 0, "y", "y", 1)
}

func TestNilChannel(t *testing.T) {
	var c *Channel
	for range 2 {
		c.Put([]byte("x"))
		if n := c.Step(); n != 0 {
			t.Errorf("Step() = %d", n)
		}
		for _, k := range []int{0, -1, 5, math.MaxInt} {
			if f, e := c.Take(k); e != api.ErrArg || len(f.Bytes) != 0 || len(f.Was) != 0 || f.Since != 0 {
				t.Errorf("Take(%d) = %v, %d", k, f, e)
			}
			does(t, c.Lose(k), api.ErrArg)
			does(t, c.Twice(k), api.ErrArg)
			does(t, c.Turn(k, []int{0}), api.ErrArg)
		}
		is(t, c, 0, 0)
	}
}

func TestAChannelThatNewDidNotMake(t *testing.T) {
	c := &Channel{}
	puts(c, "a", "b")
	takes(t, c, 0, "a", "a", 0)
	if n := c.Step(); n != 1 {
		t.Errorf("%d are gone, want 1", n)
	}
	is(t, c, 0, 1)
}

// datagram is a flight of a model: which bits are turned, of what was put when.
type datagram struct {
	was    []byte
	turned map[int]bool
	since  int
}

func (d datagram) bytes() []byte {
	b := slices.Clone(d.was)
	for i := range d.turned {
		b[i/8] ^= 128 >> (i % 8)
	}
	return b
}

// P26.1, P26.2

func TestAgainstAModel(t *testing.T) {
	chance := rand.New(rand.NewPCG(26, 1))
	for _, age := range []int{1, 2, 3, 7, 50, 1000} {
		c := channel(t, age)
		var l []datagram
		now := 0
		for range 20000 {
			k := chance.IntN(len(l)+3) - 1
			there := k >= 0 && k < len(l)
			want := api.ErrMiss
			if there {
				want = api.OK
			}
			switch chance.IntN(9) {
			case 0, 1, 2:
				b := make([]byte, chance.IntN(5))
				for i := range b {
					b[i] = byte(chance.Uint32())
				}
				c.Put(b)
				l = append(l, datagram{was: b, since: now})
			case 3:
				if age > 7 && chance.IntN(age/7) > 0 {
					continue
				}
				now++
				var stay []datagram
				for _, d := range l {
					if now-d.since < age {
						stay = append(stay, d)
					}
				}
				if n := c.Step(); n != len(l)-len(stay) {
					t.Fatalf("%d are gone, want %d", n, len(l)-len(stay))
				}
				l = stay
			case 4, 5:
				f, e := c.Take(k)
				does(t, e, want)
				if there && (!slices.Equal(f.Bytes, l[k].bytes()) || !slices.Equal(f.Was, l[k].was) || f.Since != l[k].since) {
					t.Fatalf("%v, want %v of %v, of the step %d", f, l[k].bytes(), l[k].was, l[k].since)
				}
				if there && (now-f.Since < 0 || now-f.Since >= age) {
					t.Fatalf("at the step %d one of the step %d comes", now, f.Since)
				}
				if there {
					l = slices.Delete(l, k, k+1)
				}
			case 6:
				does(t, c.Lose(k), want)
				if there {
					l = slices.Delete(l, k, k+1)
				}
			case 7:
				does(t, c.Twice(k), want)
				if there {
					l = append(l, datagram{was: l[k].was, turned: copied(l[k].turned), since: l[k].since})
				}
			case 8:
				at := make([]int, chance.IntN(6))
				for i := range at {
					at[i] = chance.IntN(50) - 5
				}
				does(t, c.Turn(k, at), want)
				if there {
					l[k].turned = turned(l[k], at)
				}
			}
			is(t, c, len(l), now)
		}
	}
}

func copied(l map[int]bool) map[int]bool {
	other := map[int]bool{}
	for i := range l {
		other[i] = true
	}
	return other
}

func turned(d datagram, at []int) map[int]bool {
	l := copied(d.turned)
	for _, i := range at {
		switch {
		case i < 0 || i >= 8*len(d.was):
		case l[i]:
			delete(l, i)
		default:
			l[i] = true
		}
	}
	return l
}

// P26.3

// over writes over a list, to the end of its room.
func over(b []byte) {
	for all, i := b[:cap(b)], 0; i < len(all); i++ {
		all[i] = 'z'
	}
}

func TestNothingIsKept(t *testing.T) {
	c := channel(t, 5)
	room := []byte("hello, there")
	c.Put(room[:5])
	at := []int{7, 7, 7, 15, 100, -1}
	does(t, c.Turn(0, at[:3]), api.OK)
	if string(room) != "hello, there" || !slices.Equal(at, []int{7, 7, 7, 15, 100, -1}) {
		t.Errorf("what was handed in was changed: %q, %v", room, at)
	}
	over(room)
	clear(at)
	if string(room) != "zzzzzzzzzzzz" {
		t.Errorf("what was handed in was changed: %q", room)
	}
	takes(t, c, 0, "iello", "hello", 0)
}

func TestAnswersAreNewMemory(t *testing.T) {
	for _, turn := range [][]int{nil, {7}} {
		c := channel(t, 5)
		puts(c, "hello")
		does(t, c.Turn(0, turn), api.OK)
		for range 3 {
			does(t, c.Twice(0), api.OK)
		}
		want := "hello"
		if turn != nil {
			want = "iello"
		}
		for range 2 {
			f, _ := c.Take(0)
			over(f.Bytes)
			if string(f.Was) != "hello" {
				t.Errorf("Was shares memory with Bytes: %q", f.Was)
			}
			over(f.Was)
			f, _ = c.Take(0)
			over(f.Was)
			if string(f.Bytes) != want {
				t.Errorf("Bytes share memory with Was: %q", f.Bytes)
			}
			does(t, c.Twice(0), api.OK)
			does(t, c.Twice(0), api.OK)
		}
		takes(t, c, 0, want, "hello", 0)
	}
}

// A turn of one flight, once another one that is like it was taken, changes nothing of what was taken.
func TestWhatWasTakenStays(t *testing.T) {
	c := channel(t, 5)
	puts(c, "hello")
	does(t, c.Twice(0), api.OK)
	f, _ := c.Take(1)
	for i := range 40 {
		does(t, c.Turn(0, []int{i}), api.OK)
	}
	c.Step()
	puts(c, "olleh")
	if string(f.Bytes) != "hello" || string(f.Was) != "hello" || f.Since != 0 {
		t.Errorf("%q, %q", f.Bytes, f.Was)
	}
}
