package script

import (
	"errors"
	"math"
	"slices"
	"strings"
	"testing"

	"shuttle/api"
	"shuttle/run"
	"shuttle/seq"
)

// config is one of which no number is like another one.
func config() run.Config {
	return run.Config{Window: api.Window{Size: 3, Queue: 17, Pool: 2}, First: 0xfedc, Age: 0x123}
}

// writes is the bytes of a config and steps that can be written.
func writes(t *testing.T, c run.Config, l []run.Step) []byte {
	t.Helper()
	b, e := Write(c, l)
	if e != api.OK {
		t.Fatalf("Write(%v, %v): %d", c, l, e)
	}
	return b
}

// reads fails unless bytes are read as that.
func reads(t *testing.T, b []byte, c run.Config, l []run.Step) {
	t.Helper()
	d, m, e := Read(b)
	if e != api.OK || d != c || !slices.EqualFunc(m, l, same) {
		t.Fatalf("Read(%v) = %v, %v, %d, want %v, %v", b, d, m, e, c, l)
	}
}

// refused fails unless bytes are refused with that error.
func refused(t *testing.T, b []byte, want api.Errno) {
	t.Helper()
	if c, l, e := Read(b); e != want || c != (run.Config{}) || len(l) != 0 {
		t.Fatalf("Read of %d bytes: %v, %d steps, %d, want %d", len(b), c, len(l), e, want)
	}
}

// same: are two steps alike? Nil and empty lists are one.
func same(a, b run.Step) bool {
	return a.Kind == b.Kind && a.K == b.K && slices.Equal(a.Bytes, b.Bytes) && slices.Equal(a.At, b.At)
}

// far are numbers far beyond all bounds.
func far() []int { return []int{1 << 32, 1<<32 + 1, -1 << 32, math.MaxInt, math.MinInt} }

// longestOf is a script of as many bytes as there may be.
func longestOf(t *testing.T) ([]run.Step, []byte) {
	t.Helper()
	x := run.Step{Kind: 255, K: 65535, Bytes: slices.Repeat([]byte{0xa5}, 255), At: slices.Repeat([]int{65534}, 255)}
	l := slices.Repeat([]run.Step{x}, 2000)
	return l, writes(t, config(), l)
}

// P29.1, Write

func TestExample(t *testing.T) {
	for _, l := range [][]run.Step{nil, {}} {
		b := writes(t, config(), l)
		if want := []byte{3, 17, 2, 0xfe, 0xdc, 0x01, 0x23, 0, 0}; !slices.Equal(b, want) {
			t.Errorf("%v, want %v", b, want)
		}
		reads(t, b, config(), nil)
	}
	// That it is no config of a system isn't asked.
	b := writes(t, run.Config{}, nil)
	if !slices.Equal(b, make([]byte, 9)) {
		t.Errorf("%v", b)
	}
	reads(t, b, run.Config{}, nil)
}

func TestWriteSteps(t *testing.T) {
	l := []run.Step{
		{Kind: 1, Bytes: []byte("hi")},
		{Kind: 2},
		{Kind: 9, K: 0x102, At: []int{0, 7, 0xabcd}},
		{Kind: 250, K: 65535, Bytes: []byte{0}, At: []int{1}},
		{},
	}
	want := []byte{
		3, 17, 2, 0xfe, 0xdc, 0x01, 0x23, 0, 5,
		1, 0, 0, 2, 'h', 'i', 0,
		2, 0, 0, 0, 0,
		9, 1, 2, 0, 3, 0, 0, 0, 7, 0xab, 0xcd,
		250, 255, 255, 1, 0, 1, 0, 1,
		0, 0, 0, 0, 0,
	}
	if b := writes(t, config(), l); !slices.Equal(b, want) {
		t.Errorf("%v, want %v", b, want)
	}
	reads(t, want, config(), l)
}

func TestWriteEachNumberAtItsBounds(t *testing.T) {
	for _, x := range []struct {
		name string
		most int
		at   func(n int) (run.Config, run.Step)
	}{
		{"size", 255, func(n int) (run.Config, run.Step) {
			return run.Config{Window: api.Window{Size: n}}, run.Step{}
		}},
		{"queue", 255, func(n int) (run.Config, run.Step) {
			return run.Config{Window: api.Window{Queue: n}}, run.Step{}
		}},
		{"pool", 255, func(n int) (run.Config, run.Step) {
			return run.Config{Window: api.Window{Pool: n}}, run.Step{}
		}},
		{"age", 65535, func(n int) (run.Config, run.Step) { return run.Config{Age: n}, run.Step{} }},
		{"kind", 255, func(n int) (run.Config, run.Step) { return config(), run.Step{Kind: n} }},
		{"place", 65535, func(n int) (run.Config, run.Step) { return config(), run.Step{K: n} }},
		{"at", 65535, func(n int) (run.Config, run.Step) { return config(), run.Step{At: []int{n}} }},
		{"second at", 65535, func(n int) (run.Config, run.Step) { return config(), run.Step{At: []int{5, n}} }},
	} {
		for _, n := range append(far(), -2, -1, 0, 1, 254, 255, 256, 257, 65534, 65535, 65536, 65537) {
			c, s := x.at(n)
			for _, l := range [][]run.Step{{s}, {{Kind: 2}, s, {Kind: 3}}} {
				if n >= 0 && n <= x.most {
					reads(t, writes(t, c, l), c, l)
				} else if b, e := Write(c, l); len(b) != 0 || e != api.ErrField {
					t.Errorf("Write with the %s %d: %v, %d, want nothing and ErrField", x.name, n, b, e)
				}
			}
		}
	}
	for n := range 65536 {
		c := run.Config{First: seq.Num(n), Age: 65535 - n}
		if b := writes(t, c, nil); int(b[3])*256+int(b[4]) != n || int(b[5])*256+int(b[6]) != 65535-n {
			t.Fatalf("First %d: %v", n, b)
		}
	}
}

func TestWriteCountsAtTheirBounds(t *testing.T) {
	for _, n := range []int{0, 1, 254, 255, 256, 257, 511, 512, 1 << 16, 1<<16 + 1, 1 << 20} {
		for _, x := range []run.Step{
			{Kind: 1, Bytes: make([]byte, n)},
			{Kind: 9, At: make([]int, n)},
			{Kind: 9, Bytes: []byte{1}, At: make([]int, n)},
		} {
			l := []run.Step{{Kind: 2}, x, {Kind: 2}}
			if n <= 255 {
				reads(t, writes(t, config(), l), config(), l)
			} else if b, e := Write(config(), l); len(b) != 0 || e != api.ErrField {
				t.Errorf("Write of %d: %d bytes, %d, want nothing and ErrField", n, len(b), e)
			}
		}
	}
	for _, n := range []int{1, 255, 256, 1999, 2000, 2001, 2002, 65535, 65536, 65537, 1 << 17} {
		l := slices.Repeat([]run.Step{{Kind: 2}}, n)
		if n <= 2000 {
			reads(t, writes(t, config(), l), config(), l)
		} else if b, e := Write(config(), l); len(b) != 0 || e != api.ErrField {
			t.Errorf("Write of %d steps: %d bytes, %d, want nothing and ErrField", n, len(b), e)
		}
	}
}

// P29.1, Read

func TestReadOfEachLength(t *testing.T) {
	b := writes(t, config(), []run.Step{
		{Kind: 1, Bytes: []byte("hi")}, {Kind: 2}, {Kind: 9, At: []int{1, 2}}, {Kind: 12, K: 1, Bytes: []byte{0}, At: []int{0}},
	})
	for n := range b {
		refused(t, b[:n], api.ErrShort)
	}
	// Whether what stands behind are noughts or not, it is a byte or more.
	for _, tail := range [][]byte{{0}, {1}, {0, 0}, make([]byte, 1000), slices.Repeat([]byte{255}, 70)} {
		refused(t, append(slices.Clone(b), tail...), api.ErrTail)
	}
	refused(t, nil, api.ErrShort)
	refused(t, []byte{}, api.ErrShort)
}

func TestReadCountsOfSteps(t *testing.T) {
	ahead := writes(t, config(), nil)[:7]
	for _, n := range []int{2001, 2002, 2047, 2048, 4096, 32768, 65535} {
		b := append(slices.Clone(ahead), byte(n>>8), byte(n))
		// It is told as soon as the count is there, whether steps stand behind it or not.
		refused(t, b, api.ErrField)
		refused(t, append(slices.Clone(b), 1), api.ErrField)
		refused(t, append(slices.Clone(b), make([]byte, 5*n)...), api.ErrField)
		refused(t, append(slices.Clone(b), make([]byte, 5*n+1)...), api.ErrField)
		refused(t, b[:8], api.ErrShort)
	}
	for _, n := range []int{1, 255, 256, 1999, 2000} {
		b := append(slices.Clone(ahead), byte(n>>8), byte(n))
		refused(t, b, api.ErrShort)
		refused(t, append(slices.Clone(b), make([]byte, 5*n-1)...), api.ErrShort)
		reads(t, append(slices.Clone(b), make([]byte, 5*n)...), config(), make([]run.Step, n))
		refused(t, append(slices.Clone(b), make([]byte, 5*n+1)...), api.ErrTail)
	}
}

func TestReadTheLongest(t *testing.T) {
	l, b := longestOf(t)
	if want := 9 + 2000*(1+2+1+255+1+2*255); len(b) != want || want != longest {
		t.Fatalf("%d bytes, want %d and %d", len(b), want, longest)
	}
	reads(t, b, config(), l)
	refused(t, b[:len(b)-1], api.ErrShort)
	for _, n := range []int{1, 2, 8, 1 << 20} {
		refused(t, append(slices.Clone(b), make([]byte, n)...), api.ErrTail)
	}
	refused(t, append(b, 0x80), api.ErrTail)
}

func TestReadFarTooMany(t *testing.T) {
	refused(t, make([]byte, 1<<24), api.ErrTail)
	refused(t, slices.Repeat([]byte{255}, 1<<24), api.ErrField)
}

// Ways of the document: why bytes can't be read is an error of its own kind, and what it came of is asked.
func TestWhyBytesCanNotBeRead(t *testing.T) {
	b := writes(t, config(), []run.Step{{Kind: 9, K: 7, Bytes: []byte("x"), At: []int{1}}})
	many := append(slices.Clone(b[:7]), 255, 255)
	for _, c := range []struct {
		b    []byte
		came error
		part string
	}{
		{b[:0], told(api.ErrShort), "size"},
		{b[:1], told(api.ErrShort), "queue"},
		{b[:2], told(api.ErrShort), "pool"},
		{b[:4], told(api.ErrShort), "first"},
		{b[:6], told(api.ErrShort), "age"},
		{b[:8], told(api.ErrShort), "steps"},
		{many, errSteps, "steps"},
		{b[:9], told(api.ErrShort), "kind"},
		{b[:11], told(api.ErrShort), "place"},
		{b[:12], told(api.ErrShort), "bytes"},
		{b[:13], told(api.ErrShort), "bytes"},
		{b[:14], told(api.ErrShort), "at"},
		{b[:16], told(api.ErrShort), "at"},
		{append(slices.Clone(b), 0), told(api.ErrTail), "end"},
	} {
		_, _, err := read(c.b)
		var u *unread
		if !errors.As(err, &u) || u.part != c.part || !errors.Is(err, c.came) || !strings.HasPrefix(err.Error(), c.part+": ") {
			t.Errorf("read of %d bytes: %v, want %s: %v", len(c.b), err, c.part, c.came)
		}
	}
	if _, _, err := read(b); err != nil {
		t.Errorf("%v", err)
	}
}

// P29.1, Play

// plays fails unless that comes of a config and steps.
func plays(t *testing.T, c run.Config, l []run.Step, want ...byte) {
	t.Helper()
	if b, e := Play(c, l); e != api.OK || !slices.Equal(b, want) {
		t.Fatalf("Play(%v, %v) = %v, %d, want %v", c, l, b, e, want)
	}
}

func small() run.Config {
	return run.Config{Window: api.Window{Size: 2, Queue: 3, Pool: 1}, First: 65535, Age: 3}
}

func TestPlay(t *testing.T) {
	none := make([]byte, 24)
	for _, l := range [][]run.Step{nil, {}} {
		plays(t, small(), l, none...)
	}
	l := []run.Step{
		{Kind: run.Send, Bytes: []byte("hi")},
		{Kind: run.Send},
		{Kind: run.Poll},
		{Kind: run.Tick},
		{Kind: run.There}, {Kind: run.Back},
		{Kind: run.There}, {Kind: run.Back},
		{Kind: run.Back},
		{Kind: run.Poll}, {Kind: run.Poll}, {Kind: run.Poll},
		{Kind: 77},
	}
	plays(t, small(), l,
		0, 0, 9, 0, 0, 0, 0, 0, 9,
		0, 2, 'h', 'i', 0, 0, 9,
		4,
		0, 0, 0, 2, 0, 0, 0, 2, 0, 0, 0, 2, 0, 0, 0, 0, 0, 0, 0, 0, 0, 0, 0, 0)
}

// Of each kind of step the error is told.
func TestPlayErrors(t *testing.T) {
	l := []run.Step{{Kind: run.Send, Bytes: make([]byte, 65)}}
	want := []byte{7}
	for range 4 {
		l = append(l, run.Step{Kind: run.Send})
	}
	want = append(want, 0, 0, 0, 8)
	for kind := run.There; kind <= run.TurnBack; kind++ {
		l = append(l, run.Step{Kind: kind}, run.Step{Kind: kind, K: -1})
		want = append(want, 9, 9)
	}
	for _, kind := range []int{-1, 0, 14, 15, 256, 257, math.MaxInt, math.MinInt} {
		l = append(l, run.Step{Kind: kind})
		want = append(want, 4)
	}
	l = append(l, run.Step{Kind: run.Poll})
	want = append(want, 9)
	plays(t, small(), l, append(want, make([]byte, 24)...)...)
}

// A channel is full.
func TestPlayATwiceThatIsFull(t *testing.T) {
	l := []run.Step{{Kind: run.ForgeThere}}
	for range 4096 {
		l = append(l, run.Step{Kind: run.TwiceThere})
	}
	plays(t, small(), l, append(append(make([]byte, 4096), 8), make([]byte, 24)...)...)
}

// The longest message is told whole.
func TestPlayTheLongestMessage(t *testing.T) {
	text := slices.Repeat([]byte{0xee}, 64)
	l := []run.Step{{Kind: run.Send, Bytes: text}, {Kind: run.Tick}, {Kind: run.There}, {Kind: run.Poll}}
	want := append([]byte{0, 0, 0, 0, 64}, text...)
	want = append(want, 0, 0, 0, 1, 0, 0, 0, 0, 0, 0, 0, 1)
	plays(t, small(), l, append(want, make([]byte, 12)...)...)
}

// Each of the counts stands at its place, the highest byte first.
func TestPlayCounts(t *testing.T) {
	var l []run.Step
	times := func(n int, steps ...run.Step) {
		for range n {
			l = append(l, steps...)
		}
	}
	there, back := run.Step{Kind: run.There}, run.Step{Kind: run.Back}
	// What comes back badly isn't one of them.
	times(300, run.Step{Kind: run.ForgeBack, Bytes: []byte{255}}, back)
	// Read 1, Acks 1, Sent 1.
	times(1, run.Step{Kind: run.Send, Bytes: []byte("a")}, run.Step{Kind: run.Tick}, run.Step{Kind: run.TwiceThere}, there, back)
	// Old 260.
	times(259, run.Step{Kind: run.TwiceThere}, there)
	times(1, there)
	// Acks 512.
	times(1, run.Step{Kind: run.TwiceBack})
	times(510, run.Step{Kind: run.TwiceBack}, back)
	times(1, back)
	// Noise 2: whatever is turned all over can't be read. Read 2: what isn't can.
	var all []int
	for at := 48; at < 94; at += 2 {
		all = append(all, at)
	}
	times(1, run.Step{Kind: run.Send, Bytes: []byte("b")}, run.Step{Kind: run.Tick})
	times(2, run.Step{Kind: run.TwiceThere}, run.Step{Kind: run.TurnThere, At: all}, there)
	times(1, there)
	// Bad 70000.
	times(70000, run.Step{Kind: run.ForgeThere, Bytes: []byte{255}}, there)
	b, e := Play(small(), l)
	if e != api.OK || len(b) < len(l)+24 {
		t.Fatalf("%d bytes, %d", len(b), e)
	}
	want := []byte{0, 0, 0, 2, 0, 0, 2, 0, 0, 0, 0, 2, 0, 0, 1, 4, 0, 0, 0, 2, 0, 1, 0x11, 0x70}
	if got := b[len(b)-24:]; !slices.Equal(got, want) {
		t.Errorf("%v, want %v", got, want)
	}
}

func TestPlayOfNoConfig(t *testing.T) {
	for _, c := range []run.Config{
		{},
		{Window: api.Window{Size: 0, Queue: 3, Pool: 1}, Age: 3},
		{Window: api.Window{Size: 33, Queue: 64, Pool: 1}, Age: 3},
		{Window: api.Window{Size: 4, Queue: 3, Pool: 1}, Age: 3},
		{Window: api.Window{Size: 4, Queue: 65, Pool: 1}, Age: 3},
		{Window: api.Window{Size: 4, Queue: 4, Pool: 0}, Age: 3},
		{Window: api.Window{Size: 4, Queue: 4, Pool: 17}, Age: 3},
		{Window: api.Window{Size: 4, Queue: 4, Pool: 1}, Age: 0},
		{Window: api.Window{Size: 4, Queue: 4, Pool: 1}, Age: 1001},
		{Window: api.Window{Size: math.MinInt, Queue: math.MaxInt, Pool: math.MaxInt}, Age: math.MinInt},
	} {
		for _, l := range [][]run.Step{nil, {{Kind: run.Poll}}} {
			if b, e := Play(c, l); len(b) != 0 || e != api.ErrArg {
				t.Errorf("Play(%v) = %v, %d, want nothing and ErrArg", c, b, e)
			}
		}
	}
}

// A step that Write refuses is played all the same, and more of them than it writes.
func TestPlayMoreThanIsWritten(t *testing.T) {
	l := slices.Repeat([]run.Step{{Kind: run.Tick, K: -5, At: []int{-1, 1 << 40}, Bytes: make([]byte, 300)}}, 2500)
	plays(t, small(), l, make([]byte, 2500+24)...)
}

// P29.4

func TestNothingIsKeptOrShared(t *testing.T) {
	bytes, at := append([]byte("abc"), 7, 7, 7), append([]int{50, 51}, 7, 7, 7)
	l := append([]run.Step{
		{Kind: run.Send, Bytes: bytes[:3]}, {Kind: run.Tick}, {Kind: run.TurnBack, Bytes: bytes[:3], At: at[:2]}, {Kind: run.There}, {Kind: run.Poll},
	}, run.Step{Kind: 99})
	unchanged := func() {
		t.Helper()
		if string(bytes) != "abc\a\a\a" || !slices.Equal(at, []int{50, 51, 7, 7, 7}) || l[5].Kind != 99 || l[2].K != 0 || len(l[2].At) != 2 {
			t.Fatalf("what was handed in was changed: %v, %v, %v", bytes, at, l)
		}
	}
	b := writes(t, small(), l[:5])
	unchanged()
	played, _ := Play(small(), l[:5])
	unchanged()
	// Other answers stay as they are, when these are written over.
	again, _ := Play(small(), l[:5])
	want := slices.Clone(again)
	over(played)
	if !slices.Equal(again, want) || string(again[:9]) != "\x00\x00\x09\x00\x00\x03abc" {
		t.Errorf("%v, want %v", again, want)
	}
	file := append(slices.Clone(b), 9, 9, 9)
	_, m, e := Read(file[:len(b)])
	if e != api.OK || !slices.Equal(file, append(slices.Clone(b), 9, 9, 9)) {
		t.Fatalf("Read: %d, %v", e, file)
	}
	over(file)
	// No two lists of one answer share memory: each one is written over alone.
	for i := range m {
		if !same(m[i], l[i]) {
			t.Errorf("step %d: %v, want %v", i, m[i], l[i])
		}
		over(m[i].Bytes)
		for all, k := m[i].At[:cap(m[i].At)], 0; k < len(all); k++ {
			all[k] = -1
		}
	}
	unchanged()
	reads(t, b, small(), l[:5])
}

// over writes over a list, to the end of its room.
func over(b []byte) {
	for all, i := b[:cap(b)], 0; i < len(all); i++ {
		all[i] = 0x5a
	}
}
